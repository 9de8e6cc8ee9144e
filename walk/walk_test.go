package walk

import (
	"fmt"
	"math"
	"slices"
	"sort"
	"strings"
	"testing"
	"unsafe"

	"dolmen/api"
	"dolmen/tree"
)

// dice gives numbers by a rule, the same ones each time.
type dice uint64

func (d *dice) below(n int) int {
	*d = *d*6364136223846793005 + 1442695040888963407
	return int(*d >> 33 % dice(n))
}

func dir(ino int, l ...any) api.Node {
	n := api.Node{Ino: ino, Kind: api.KDir}
	for i := 0; i < len(l); i += 2 {
		n.Names = append(n.Names, l[i].(string))
		n.Inos = append(n.Inos, l[i+1].(int))
	}
	return n
}

func file(ino int, data string) api.Node {
	return api.Node{Ino: ino, Kind: api.KFile, Data: []byte(data)}
}

func of(next int, l ...api.Node) api.Tree { return api.Tree{Next: next, Nodes: l} }

// some is a tree in which names go on behind a directory's with bytes below the slash: by Less `/a-` and `/a.b` stand ahead of `/a/..`, but behind it as one goes.
func some() api.Tree {
	return of(20,
		dir(1, "A", 7, "a", 2, "a-", 3, "a.b", 4, "a0", 5),
		dir(2, "-", 6, "b", 8, "z", 4),
		dir(3, "x", 4),
		file(4, "hey\x00\xff"),
		file(5, ""),
		dir(6),
		file(7, "twelve bytes"),
		dir(8, "a", 9),
		dir(9, "f", 12, "z", 4),
		file(12, "1"))
}

const allOfSome = "/ 1 2 5|/A 7 1 12|/a 2 2 3|/a/- 6 2 0|/a/b 8 2 1|/a/b/a 9 2 2|/a/b/a/f 12 1 1|/a/b/a/z 4 1 5|/a/z 4 1 5|/a- 3 2 1|/a-/x 4 1 5|/a.b 4 1 5|/a0 5 1 0"

func shown(l []Item) string {
	var out []string
	for _, i := range l {
		out = append(out, fmt.Sprint(i.Path, " ", i.Ino, " ", i.Kind, " ", i.Size))
	}
	return strings.Join(out, "|")
}

// all holds what All answers against the items wanted.
func all(t *testing.T, x api.Tree, from, want string) {
	t.Helper()
	l, err := All(x, from)
	if err != nil || shown(l) != want {
		t.Errorf("P8.1: All of %q:\n got %s, %v\nwant %s", from, shown(l), err, want)
	}
}

// found holds what Find answers against the paths wanted.
func found(t *testing.T, x api.Tree, from, pattern string, want ...string) {
	t.Helper()
	l, err := Find(x, from, pattern)
	if err != nil || !slices.Equal(l, want) {
		t.Errorf("P8.1: Find(%q, %q):\n got %q, %v\nwant %q", from, pattern, l, err, want)
	}
}

// weighs holds what Du answers against the numbers wanted.
func weighs(t *testing.T, x api.Tree, path string, files, dirs, bytes int) {
	t.Helper()
	f, d, b, err := Du(x, path)
	if err != nil || f != files || d != dirs || b != bytes {
		t.Errorf("P8.1: Du of %q: %d, %d, %d, %v; want %d, %d, %d", path, f, d, b, err, files, dirs, bytes)
	}
}

// refused holds All, Find and Du against the bare number wanted, and their other results against zero.
func refused(t *testing.T, x api.Tree, from string, want api.Errno) {
	t.Helper()
	if l, err := All(x, from); err != error(want) || len(l) != 0 {
		t.Errorf("P8.1: All of %q: %v, %#v; want %#v", from, l, err, want)
	}
	for _, pattern := range []string{"*", "", "none"} {
		if l, err := Find(x, from, pattern); err != error(want) || len(l) != 0 {
			t.Errorf("P8.1: Find(%q, %q): %v, %#v; want %#v", from, pattern, l, err, want)
		}
	}
	if f, d, b, err := Du(x, from); err != error(want) || f != 0 || d != 0 || b != 0 {
		t.Errorf("P8.1: Du of %q: %d, %d, %d, %#v; want %#v", from, f, d, b, err, want)
	}
}

// leads holds what Paths answers against the paths wanted.
func leads(t *testing.T, x api.Tree, ino int, want ...string) {
	t.Helper()
	if l := Paths(x, ino); !slices.Equal(l, want) {
		t.Errorf("P8.2: Paths of %d:\n got %q\nwant %q", ino, l, want)
	}
}

// differ holds what Diff answers, either way round, against the paths wanted.
func differ(t *testing.T, what string, a, b api.Tree, want ...string) {
	t.Helper()
	if l := Diff(a, b); !slices.Equal(l, want) {
		t.Errorf("P8.2: %s: Diff:\n got %q\nwant %q", what, l, want)
	}
	if l := Diff(b, a); !slices.Equal(l, want) {
		t.Errorf("P8.3: %s: Diff the other way round:\n got %q\nwant %q", what, l, want)
	}
}

// P8.1

func TestAll(t *testing.T) {
	all(t, some(), "/", allOfSome)
	all(t, some(), "/a", "/a 2 2 3|/a/- 6 2 0|/a/b 8 2 1|/a/b/a 9 2 2|/a/b/a/f 12 1 1|/a/b/a/z 4 1 5|/a/z 4 1 5")
	all(t, some(), "/a/b/a", "/a/b/a 9 2 2|/a/b/a/f 12 1 1|/a/b/a/z 4 1 5")
	all(t, some(), "/a/-", "/a/- 6 2 0")
	all(t, some(), "/a-", "/a- 3 2 1|/a-/x 4 1 5")
	all(t, some(), "/a-/x", "/a-/x 4 1 5")
	all(t, some(), "/a.b", "/a.b 4 1 5")
	all(t, some(), "/a0", "/a0 5 1 0")
	all(t, tree.New().All(), "/", "/ 1 2 0")
}

func TestFind(t *testing.T) {
	x := some()
	found(t, x, "/", "", "/")
	found(t, x, "/", "*", "/", "/A", "/a", "/a/-", "/a/b", "/a/b/a", "/a/b/a/f", "/a/b/a/z", "/a/z", "/a-", "/a-/x", "/a.b", "/a0")
	found(t, x, "/", "a*", "/a", "/a/b/a", "/a-", "/a.b", "/a0")
	found(t, x, "/", "a", "/a", "/a/b/a")
	found(t, x, "/", "z", "/a/b/a/z", "/a/z")
	found(t, x, "/", "?", "/A", "/a", "/a/-", "/a/b", "/a/b/a", "/a/b/a/f", "/a/b/a/z", "/a/z", "/a-/x")
	found(t, x, "/", "a?b", "/a.b")
	found(t, x, "/a", "*", "/a", "/a/-", "/a/b", "/a/b/a", "/a/b/a/f", "/a/b/a/z", "/a/z")
	found(t, x, "/a", "a", "/a", "/a/b/a")
	found(t, x, "/a", "")
	found(t, x, "/a", "/a")
	found(t, x, "/", "/")
	found(t, x, "/", "a/*")
	found(t, x, "/a.b", "a.b", "/a.b")
	found(t, x, "/a.b", "axb")
	found(t, x, "/a-/x", "a*")
	found(t, x, "/", "none")
	found(t, x, "/a0", strings.Repeat("*", 40), "/a0")
	found(t, x, "/a0", strings.Repeat("*", 41))
	found(t, x, "/", strings.Repeat("*", 1<<20))
}

func TestDu(t *testing.T) {
	x := some()
	weighs(t, x, "/", 4, 6, 18)
	weighs(t, x, "/a", 2, 4, 6)
	weighs(t, x, "/a/b", 2, 2, 6)
	weighs(t, x, "/a/b/a", 2, 1, 6)
	weighs(t, x, "/a-", 1, 1, 5)
	weighs(t, x, "/a/-", 0, 1, 0)
	weighs(t, x, "/a0", 1, 0, 0)
	weighs(t, x, "/a-/x", 1, 0, 5)
	weighs(t, tree.New().All(), "/", 0, 1, 0)
	weighs(t, of(3, dir(1, "a", 2, "b", 2), file(2, "two")), "/", 1, 1, 3)
}

func TestFromThatIsRefused(t *testing.T) {
	for from, want := range map[string]api.Errno{
		"":                                api.ErrPath,
		"a":                               api.ErrPath,
		"//":                              api.ErrPath,
		"/a/":                             api.ErrPath,
		"/a/..":                           api.ErrPath,
		"/*":                              api.ErrPath,
		"/" + strings.Repeat("x", 200):    api.ErrPath,
		"/" + strings.Repeat("x", 13):     api.ErrName,
		"/a.b/" + strings.Repeat("x", 13): api.ErrName,
		"/1/2/3/4/5/6/7":                  api.ErrDeep,
		"/a.b/2/3/4/5/6/7":                api.ErrDeep,
		"/none":                           api.ErrNone,
		"/a/none":                         api.ErrNone,
		"/none/x":                         api.ErrNone,
		"/a/b/b":                          api.ErrNone,
		"/a.b/x":                          api.ErrFile,
		"/a/z/x":                          api.ErrFile,
		"/a0/x/y/z":                       api.ErrFile,
	} {
		refused(t, some(), from, want)
	}
}

// noTrees is what is no tree.
func noTrees() map[string]api.Tree {
	many := of(100, dir(1))
	for i := range api.MaxNodes {
		many.Nodes[0].Names = append(many.Nodes[0].Names, fmt.Sprint(i+100))
		many.Nodes[0].Inos = append(many.Nodes[0].Inos, i+2)
		many.Nodes = append(many.Nodes, file(i+2, ""))
	}
	links := of(3, dir(1), file(2, ""))
	for i := range api.MaxLinks + 1 {
		links.Nodes[0].Names = append(links.Nodes[0].Names, fmt.Sprint(i+100))
		links.Nodes[0].Inos = append(links.Nodes[0].Inos, 2)
	}
	return map[string]api.Tree{
		"nothing":               {},
		"no inode":              of(2),
		"next 1":                of(1, dir(1)),
		"next too great":        of(1<<40+1, dir(1)),
		"an inode from next on": of(2, dir(1, "a", 2), file(2, "")),
		"a root that is a file": of(2, file(1, "")),
		"no root":               of(3, dir(2)),
		"falling numbers":       of(4, dir(1, "a", 2, "b", 3), file(3, ""), file(2, "")),
		"falling names":         of(4, dir(1, "b", 2, "a", 3), file(2, ""), file(3, "")),
		"a name that is none":   of(3, dir(1, "..", 2), file(2, "")),
		"a name too long":       of(3, dir(1, "abcdefghijklm", 2), file(2, "")),
		"a name of nothing":     of(3, dir(1, "a", 2)),
		"a file without a name": of(3, dir(1), file(2, "")),
		"a directory with two":  of(3, dir(1, "a", 2, "b", 2), dir(2)),
		"a ring":                of(4, dir(1), dir(2, "a", 3), dir(3, "a", 2)),
		"a ring through 1":      of(2, dir(1, "a", 1)),
		"a file too long":       of(3, dir(1, "a", 2), file(2, strings.Repeat("x", api.MaxFile+1))),
		"no kind":               of(3, dir(1, "a", 2), api.Node{Ino: 2}),
		"a kind that is none":   of(3, dir(1, "a", 2), api.Node{Ino: 2, Kind: 3}),
		"names without inodes":  of(2, api.Node{Ino: 1, Kind: api.KDir, Names: []string{"a"}}),
		"inodes without names":  of(3, api.Node{Ino: 1, Kind: api.KDir, Inos: []int{2}}, file(2, "")),
		"too many inodes":       many,
		"too many names":        links,
	}
}

// That x is no tree is told ahead of what is wrong with the path.
func TestTreeThatIsRefused(t *testing.T) {
	for what, x := range noTrees() {
		if _, err := tree.Of(x); err == nil {
			t.Errorf("%s: Of takes it", what)
		}
		for _, from := range []string{"/", "/a", "/none", "", "x", "/1/2/3/4/5/6/7", "/abcdefghijklm"} {
			refused(t, x, from, api.ErrArg)
		}
		for _, ino := range []int{0, 1, 2, 3} {
			leads(t, x, ino)
		}
		differ(t, what, x, some())
		differ(t, what, x, tree.New().All())
		differ(t, what, x, x)
		differ(t, what, x, api.Tree{})
	}
}

// What a kind has not is not asked by 5's Of, and is nothing here either.
func TestWhatAKindHasNot(t *testing.T) {
	x := of(4, dir(1, "a", 2, "b", 3), file(2, "byte"), dir(3))
	y := of(4, dir(1, "a", 2, "b", 3), file(2, "byte"), dir(3))
	y.Nodes[0].Data = []byte("root")
	y.Nodes[1].Names = []string{"n", ".."}
	y.Nodes[1].Inos = []int{3, 1, 77}
	y.Nodes[2].Data = []byte("gone")
	all(t, y, "/", "/ 1 2 2|/a 2 1 4|/b 3 2 0")
	found(t, y, "/", "n")
	weighs(t, y, "/", 1, 2, 4)
	leads(t, y, 3, "/b")
	leads(t, y, 77)
	differ(t, "kinds", x, y)
	refused(t, y, "/a/n", api.ErrFile)
}

// greatest is a tree of which nothing may be more.
func greatest() api.Tree {
	x := of(1<<40, dir(1))
	for i := range api.MaxNodes - 1 {
		ino := 1<<40 - api.MaxNodes + 1 + i
		for j := range api.MaxLinks {
			x.Nodes[0].Names = append(x.Nodes[0].Names, fmt.Sprintf("%06d%06d", i, j))
			x.Nodes[0].Inos = append(x.Nodes[0].Inos, ino)
		}
		x.Nodes = append(x.Nodes, file(ino, strings.Repeat("\xfe", api.MaxFile)))
	}
	return x
}

func TestGreatest(t *testing.T) {
	x := greatest()
	files := api.MaxNodes - 1
	weighs(t, x, "/", files, 1, files*api.MaxFile)
	if l, err := All(x, "/"); err != nil || len(l) != 1+files*api.MaxLinks || l[0].Size != files*api.MaxLinks {
		t.Errorf("P8.1: All: %d, %v", len(l), err)
	}
	if l := Paths(x, 1<<40-1); len(l) != api.MaxLinks || l[0] != "/000058000000" || l[api.MaxLinks-1] != "/000058000019" {
		t.Errorf("P8.2: Paths: %q", l)
	}
	y := greatest()
	y.Nodes[api.MaxNodes-1].Data[api.MaxFile-1]++
	differ(t, "last byte", x, y, Paths(x, 1<<40-1)...)
	if l := Diff(x, tree.New().All()); len(l) != files*api.MaxLinks {
		t.Errorf("P8.2: Diff: %d", len(l))
	}
}

// chained is directories within each other, deeper than a path may lead, and a file in the last: renamed ones can stand so.
func chained() api.Tree {
	x := of(api.MaxNodes+1, dir(1, "d", 2))
	for i := 2; i < api.MaxNodes; i++ {
		x.Nodes = append(x.Nodes, dir(i, "d", i+1))
	}
	x.Nodes = append(x.Nodes, file(api.MaxNodes, "deep"))
	return x
}

func TestDeeperThanAPathMayLead(t *testing.T) {
	x := chained()
	d := func(n int) string { return strings.Repeat("/d", n) }
	deepest := d(api.MaxNodes - 1)
	want := "/ 1 2 1"
	for i := 2; i < api.MaxNodes; i++ {
		want += fmt.Sprint("|", d(i-1), " ", i, " 2 1")
	}
	want += fmt.Sprint("|", deepest, " ", api.MaxNodes, " 1 4")
	all(t, x, "/", want)
	all(t, x, "/d/d/d/d/d/d", want[strings.Index(want, "/d/d/d/d/d/d "):])
	refused(t, x, "/d/d/d/d/d/d/d", api.ErrDeep)
	weighs(t, x, "/", 1, api.MaxNodes-1, 4)
	leads(t, x, api.MaxNodes, deepest)
	if l, err := Find(x, "/d", "d"); err != nil || len(l) != api.MaxNodes-1 || l[len(l)-1] != deepest {
		t.Errorf("P8.1: Find: %q, %v", l, err)
	}
	y := chained()
	y.Nodes[api.MaxNodes-1].Data = []byte("Deep")
	differ(t, "deep", x, y, deepest)
}

// P8.2

func TestPaths(t *testing.T) {
	x := some()
	leads(t, x, 1, "/")
	leads(t, x, 2, "/a")
	leads(t, x, 4, "/a-/x", "/a.b", "/a/b/a/z", "/a/z")
	leads(t, x, 5, "/a0")
	leads(t, x, 6, "/a/-")
	leads(t, x, 9, "/a/b/a")
	leads(t, x, 12, "/a/b/a/f")
	for _, ino := range []int{0, -1, 10, 11, 13, 19, 20, 21, math.MaxInt, math.MinInt} {
		leads(t, x, ino)
	}
}

func TestDiff(t *testing.T) {
	x := some()
	differ(t, "itself", x, some())
	differ(t, "new ones", tree.New().All(), of(1<<40, dir(1)))
	differ(t, "nothing there", x, tree.New().All(), "/A", "/a", "/a-", "/a-/x", "/a.b", "/a/-", "/a/b", "/a/b/a", "/a/b/a/f", "/a/b/a/z", "/a/z", "/a0")
	y := some()
	y.Nodes[3].Data = []byte("hey\x00\xfe")
	differ(t, "one file by all its names", x, y, "/a-/x", "/a.b", "/a/b/a/z", "/a/z")
	y.Nodes[3].Data = []byte("hey\x00\xff\x00")
	differ(t, "one byte more", x, y, "/a-/x", "/a.b", "/a/b/a/z", "/a/z")
	y.Nodes[3].Data = nil
	differ(t, "no bytes", x, y, "/a-/x", "/a.b", "/a/b/a/z", "/a/z")
}

func TestDiffOfKinds(t *testing.T) {
	a := of(5, dir(1, "d", 2, "e", 3), dir(2, "f", 4), dir(3), file(4, "f"))
	b := of(5, dir(1, "d", 2, "e", 3), file(2, ""), file(3, ""))
	differ(t, "a directory and a file of no bytes", a, b, "/d", "/d/f", "/e")
	differ(t, "names of a directory", of(3, dir(1, "d", 2), dir(2)), of(4, dir(1, "d", 2), dir(2, "x", 3), file(3, "")), "/d/x")
}

// Which number an inode has, whether names share one, and what number comes next, is not compared.
func TestDiffOfNumbers(t *testing.T) {
	a := of(4, dir(1, "a", 2, "b", 3), file(2, "x"), file(3, "x"))
	b := of(9, dir(1, "a", 8, "b", 8), file(8, "x"))
	differ(t, "numbers", a, b)
	c := of(9, dir(1, "a", 8, "b", 7), dir(7), file(8, "x"))
	differ(t, "numbers and kinds", b, c, "/b")
}

// place is what a tree has at a path, by its operations.
type place struct {
	reply api.Reply
	data  string
}

// places is all that a tree's operations come to.
func places(x *tree.T) map[string]place {
	out := map[string]place{}
	todo := []string{"/"}
	for len(todo) > 0 {
		path := todo[0]
		todo = todo[1:]
		r, err := x.Do(api.Op{Kind: api.OpStat, Path: path})
		if err != nil {
			continue
		}
		bytes, _ := x.Do(api.Op{Kind: api.OpRead, Path: path, N: api.MaxFile})
		out[path] = place{r, string(bytes.Data)}
		names, _ := x.Do(api.Op{Kind: api.OpReaddir, Path: path})
		for _, name := range names.Names {
			todo = append(todo, strings.TrimSuffix(path, "/")+"/"+name)
		}
	}
	return out
}

// ordered is the paths at and under a path that may pass, in the order of their names, a slash ahead of all.
func ordered(at map[string]place, from string, passes func(string) bool) []string {
	out := []string{}
	for path := range at {
		if (path == from || strings.HasPrefix(path, strings.TrimSuffix(from, "/")+"/")) && passes(path) {
			out = append(out, path)
		}
	}
	key := func(i int) string { return strings.ReplaceAll(out[i], "/", "\x00") }
	sort.Slice(out, func(i, j int) bool { return key(i) < key(j) })
	return out
}

// grown is a tree after some operations on few paths, short enough that all stays in the reach of a path.
func grown(d *dice, steps int) *tree.T {
	paths := []string{"/a", "/b", "/a-", "/a.", "/a/b", "/a/c", "/a/b/a", "/b/a", "/b/a/a-", "/a-/b", "/a/b/a/c"}
	x := tree.New()
	for range steps {
		kinds := []int{1, 1, 1, 2, 2, 2, 2, 3, 4, 5, 6, 6, 8, 8, 9}
		x.Do(api.Op{Kind: kinds[d.below(len(kinds))], Path: paths[d.below(len(paths))], To: paths[d.below(len(paths))], Off: d.below(3), N: d.below(4), Data: []byte("abc")[:d.below(4)]})
	}
	return x
}

// held holds all that is told of one tree against what its operations tell.
func held(t *testing.T, x *tree.T) {
	t.Helper()
	at := places(x)
	pick := func(string) bool { return true }
	for from := range at {
		var items []Item
		var files, dirs, bytes int
		seen := map[int]bool{}
		for _, path := range ordered(at, from, pick) {
			r := at[path].reply
			items = append(items, Item{path, r.Ino, r.Kind, r.Size})
			switch {
			case r.Kind == api.KDir:
				dirs++
			case !seen[r.Ino]:
				files++
				bytes += r.Size
			}
			seen[r.Ino] = true
		}
		all(t, x.All(), from, shown(items))
		weighs(t, x.All(), from, files, dirs, bytes)
		found(t, x.All(), from, "a*", ordered(at, from, func(path string) bool {
			return strings.Contains(path, "/a") && strings.LastIndex(path, "/a") == strings.LastIndex(path, "/")
		})...)
	}
	for ino := range x.All().Next + 1 {
		lead := ordered(at, "/", func(path string) bool { return at[path].reply.Ino == ino })
		slices.Sort(lead)
		leads(t, x.All(), ino, lead...)
	}
}

func TestAgainstOperations(t *testing.T) {
	d := dice(3)
	last := tree.New()
	for i := range 300 {
		x := grown(&d, 10+i%60)
		held(t, x)
		y := last
		if i%2 == 0 { // one that is nearly alike
			y = x.Copy()
			y.Do(api.Op{Kind: 1 + d.below(6), Path: "/a/b", To: "/b/a"})
			y.Do(api.Op{Kind: api.OpWrite, Path: "/a", Data: []byte("new")})
		}
		a, b := places(x), places(y)
		want := []string{}
		for path, p := range a {
			if q, ok := b[path]; !ok || p.reply.Kind != q.reply.Kind || p.data != q.data {
				want = append(want, path)
			}
		}
		for path := range b {
			if _, ok := a[path]; !ok {
				want = append(want, path)
			}
		}
		slices.Sort(want)
		differ(t, fmt.Sprint("round ", i), x.All(), y.All(), want...)
		last = x
	}
}

// P8.3

// full is a tree's nodes with all their spare room.
func full(x api.Tree) string {
	var out []any
	for _, n := range x.Nodes[:cap(x.Nodes)] {
		out = append(out, n.Ino, n.Kind, n.Data[:cap(n.Data)], n.Names[:cap(n.Names)], n.Inos[:cap(n.Inos)])
	}
	return fmt.Sprintf("%d %q", x.Next, out)
}

// spared is some with spare room in each list.
func spared() api.Tree {
	x := some()
	for i := range x.Nodes {
		n := &x.Nodes[i]
		n.Data = append(n.Data, "spare"...)[:len(n.Data)]
		n.Names = append(n.Names, "spare")[:len(n.Names)]
		n.Inos = append(n.Inos, 99)[:len(n.Inos)]
	}
	x.Nodes = append(x.Nodes, file(99, "spare"))[:len(x.Nodes)]
	return x
}

func TestNothingHandedInChanges(t *testing.T) {
	x, y := spared(), spared()
	y.Nodes[3].Data[0] = 'H'
	beforeX, beforeY := full(x), full(y)
	all(t, x, "/", allOfSome)
	found(t, x, "/", "a0", "/a0")
	weighs(t, x, "/", 4, 6, 18)
	leads(t, x, 5, "/a0")
	differ(t, "spared", x, y, "/a-/x", "/a.b", "/a/b/a/z", "/a/z")
	refused(t, x, "/none", api.ErrNone)
	if full(x) != beforeX || full(y) != beforeY {
		t.Errorf("P8.3: changed:\n%s\n%s", full(x), full(y))
	}
	x.Nodes[3].Data[0] = 'H'
	differ(t, "nothing kept", x, y)
}

// within tells whether a text lies in the memory of another one.
func within(s, whole string) bool {
	at, from := uintptr(unsafe.Pointer(unsafe.StringData(s))), uintptr(unsafe.Pointer(unsafe.StringData(whole)))
	return len(s) > 0 && from <= at && at < from+uintptr(len(whole))
}

func TestAnswersAreNew(t *testing.T) {
	x := some()
	from := strings.Clone("/a.b")
	given := []string{from}
	for _, n := range x.Nodes {
		for i := range n.Names {
			n.Names[i] = strings.Clone(n.Names[i])
		}
		given = append(given, n.Names...)
	}
	items, _ := All(x, from)
	under, _ := All(x, "/")
	found, _ := Find(x, from, "*")
	told := slices.Concat(found, Paths(x, 4), Diff(x, tree.New().All()))
	for _, i := range append(items, under...) {
		told = append(told, i.Path)
	}
	for _, s := range told {
		for _, whole := range given {
			if within(s, whole) {
				t.Errorf("P8.3: %q is what was handed in", s)
			}
		}
	}
	clear(items[:cap(items)])
	clear(under[:cap(under)])
	clear(told[:cap(told)])
	all(t, x, "/", allOfSome)
	leads(t, x, 4, "/a-/x", "/a.b", "/a/b/a/z", "/a/z")
}
