package tree

import (
	"bytes"
	"fmt"
	"math"
	"reflect"
	"slices"
	"strings"
	"testing"

	"dolmen/api"
)

func create(path string) api.Op     { return api.Op{Kind: api.OpCreate, Path: path} }
func mkdir(path string) api.Op      { return api.Op{Kind: api.OpMkdir, Path: path} }
func unlink(path string) api.Op     { return api.Op{Kind: api.OpUnlink, Path: path} }
func rmdir(path string) api.Op      { return api.Op{Kind: api.OpRmdir, Path: path} }
func stat(path string) api.Op       { return api.Op{Kind: api.OpStat, Path: path} }
func readdir(path string) api.Op    { return api.Op{Kind: api.OpReaddir, Path: path} }
func rename(path, to string) api.Op { return api.Op{Kind: api.OpRename, Path: path, To: to} }
func link(path, to string) api.Op   { return api.Op{Kind: api.OpLink, Path: path, To: to} }
func truncate(path string, n int) api.Op {
	return api.Op{Kind: api.OpTruncate, Path: path, N: n}
}
func read(path string, off, n int) api.Op {
	return api.Op{Kind: api.OpRead, Path: path, Off: off, N: n}
}
func write(path string, off int, data string) api.Op {
	return api.Op{Kind: api.OpWrite, Path: path, Off: off, Data: []byte(data)}
}

// shown is a Reply as a text in which nil and an empty list are the same.
func shown(r api.Reply) string {
	return fmt.Sprintf("ino %d kind %d size %d links %d n %d %q %q %d", r.Ino, r.Kind, r.Size, r.Links, r.N, r.Data, r.Names, r.Snaps)
}

// tells holds what an operation that is not refused tells against the Reply wanted.
func tells(t *testing.T, x *T, o api.Op, want api.Reply) {
	t.Helper()
	got, err := x.Do(o)
	if err != nil || shown(got) != shown(want) {
		t.Errorf("%+v:\n got %s, %v\nwant %s", o, shown(got), err, shown(want))
	}
}

// does does operations, none of which is to be refused.
func does(t *testing.T, x *T, l ...api.Op) {
	t.Helper()
	for _, o := range l {
		if _, err := x.Do(o); err != nil {
			t.Fatalf("%+v: %v", o, err)
		}
	}
}

// refuses holds an error against the Fault wanted, and sees that nothing is told and nothing changed.
func refuses(t *testing.T, x *T, o api.Op, want api.Errno) {
	t.Helper()
	before := x.All()
	r, err := x.Do(o)
	f, ok := err.(*api.Fault)
	if !ok || f.Op != "tree" || f.Path != o.Path || f.Err != error(want) {
		t.Errorf("%+v: %#v; want a Fault of %v", o, err, want)
	}
	if !reflect.DeepEqual(r, api.Reply{}) {
		t.Errorf("%+v: tells %s beside an error", o, shown(r))
	}
	if !Same(before, x.All()) {
		t.Errorf("%+v: refused, but changed the tree", o)
	}
}

// holds holds a whole tree against lines, one an inode, and the next number.
func holds(t *testing.T, x *T, want ...string) {
	t.Helper()
	all := x.All()
	var got []string
	for _, n := range all.Nodes {
		s := fmt.Sprintf("%d file %q", n.Ino, n.Data)
		if n.Kind == api.KDir {
			s = fmt.Sprintf("%d dir %v %v", n.Ino, n.Names, n.Inos)
		}
		if n.Kind == api.KDir && len(n.Data) > 0 || n.Kind == api.KFile && len(n.Names)+len(n.Inos) > 0 {
			s += " and what its kind has not"
		}
		got = append(got, s)
	}
	got = append(got, fmt.Sprint("next ", all.Next))
	if !slices.Equal(got, want) {
		t.Errorf("tree:\n got %q\nwant %q", got, want)
	}
}

// some is a tree of files and directories: /a with the bytes hi (Ino 2), /d (3), /d/e (4), /d/f (5), /g (6).
func some(t *testing.T) *T {
	t.Helper()
	x := New()
	does(t, x, create("/a"), mkdir("/d"), mkdir("/d/e"), create("/d/f"), mkdir("/g"), write("/a", 0, "hi"))
	return x
}

func someIs() []string {
	return []string{`1 dir [a d g] [2 3 6]`, `2 file "hi"`, `3 dir [e f] [4 5]`, `4 dir [] []`, `5 file ""`, `6 dir [] []`, `next 7`}
}

// wrong is paths that are none, or too long, or too deep, and what they are refused with.
func wrong() map[string]api.Errno {
	return map[string]api.Errno{
		"": api.ErrPath, "a": api.ErrPath, "/a/": api.ErrPath, "//": api.ErrPath, "/a/..": api.ErrPath, "/?": api.ErrPath,
		"/" + strings.Repeat("n", 13): api.ErrName, "/" + strings.Repeat("n", 13) + "/ ": api.ErrPath,
		"/1/2/3/4/5/6/7": api.ErrDeep, "/d/2/3/4/5/6/" + strings.Repeat("n", 13): api.ErrName,
		"/" + strings.Repeat("n", 200): api.ErrPath,
	}
}

// P5.1

func TestCreateMkdir(t *testing.T) {
	x := New()
	tells(t, x, create("/a"), api.Reply{Ino: 2})
	tells(t, x, mkdir("/d"), api.Reply{Ino: 3})
	tells(t, x, create("/d/f"), api.Reply{Ino: 4})
	tells(t, x, mkdir("/d/e"), api.Reply{Ino: 5})
	tells(t, x, create("/d/e/a"), api.Reply{Ino: 6})
	holds(t, x, `1 dir [a d] [2 3]`, `2 file ""`, `3 dir [e f] [5 4]`, `4 file ""`, `5 dir [a] [6]`, `6 file ""`, `next 7`)
	longest := strings.Repeat("n", 12)
	tells(t, x, create("/"+longest), api.Reply{Ino: 7})
	tells(t, x, stat("/"+longest), api.Reply{Ino: 7, Kind: api.KFile, Links: 1})
}

func TestCreateMkdirRefused(t *testing.T) {
	for _, op := range []func(string) api.Op{create, mkdir} {
		x := some(t)
		for path, code := range wrong() {
			refuses(t, x, op(path), code)
		}
		refuses(t, x, op("/"), api.ErrPath)
		refuses(t, x, op("/a"), api.ErrThere)
		refuses(t, x, op("/d"), api.ErrThere)
		refuses(t, x, op("/d/f"), api.ErrThere)
		refuses(t, x, op("/a/x"), api.ErrFile)
		refuses(t, x, op("/a/x/y"), api.ErrFile)
		refuses(t, x, op("/none/x"), api.ErrNone)
		refuses(t, x, op("/d/none/x"), api.ErrNone)
		holds(t, x, someIs()...)
	}
}

func TestNumbersAreGivenOnce(t *testing.T) {
	x := New()
	does(t, x, create("/a"), unlink("/a"))
	tells(t, x, mkdir("/a"), api.Reply{Ino: 3})
	does(t, x, rmdir("/a"))
	refuses(t, x, create("/none/a"), api.ErrNone)
	tells(t, x, create("/a"), api.Reply{Ino: 4})
	holds(t, x, `1 dir [a] [4]`, `4 file ""`, `next 5`)
}

func TestMostNodes(t *testing.T) {
	x := New()
	does(t, x, mkdir("/d"))
	for i := 3; i <= api.MaxNodes; i++ {
		tells(t, x, create(fmt.Sprint("/d/", i)), api.Reply{Ino: i})
	}
	if n := len(x.All().Nodes); n != 60 {
		t.Fatalf("%d inodes; want 60", n)
	}
	refuses(t, x, create("/more"), api.ErrMany)
	refuses(t, x, mkdir("/more"), api.ErrMany)
	refuses(t, x, create("/d/5"), api.ErrThere)
	refuses(t, x, create("/d/5/x"), api.ErrFile)
	refuses(t, x, create("/none/x"), api.ErrNone)
	does(t, x, link("/d/5", "/more"), unlink("/d/5"))
	refuses(t, x, mkdir("/d/5"), api.ErrMany)
	does(t, x, unlink("/more"))
	tells(t, x, mkdir("/more"), api.Reply{Ino: 61})
	refuses(t, x, create("/most"), api.ErrMany)
}

func TestLastNumber(t *testing.T) {
	x, err := Of(api.Tree{Nodes: []api.Node{{Ino: 1, Kind: api.KDir}}, Next: 1<<40 - 1})
	if err != nil {
		t.Fatal(err)
	}
	tells(t, x, create("/a"), api.Reply{Ino: 1<<40 - 1})
	refuses(t, x, create("/b"), api.ErrMany)
	refuses(t, x, mkdir("/b"), api.ErrMany)
	refuses(t, x, mkdir("/a"), api.ErrThere)
	does(t, x, unlink("/a"))
	refuses(t, x, create("/a"), api.ErrMany)
	holds(t, x, `1 dir [] []`, fmt.Sprint("next ", 1<<40))
}

func TestUnlink(t *testing.T) {
	x := some(t)
	does(t, x, link("/a", "/d/l"))
	tells(t, x, unlink("/a"), api.Reply{})
	tells(t, x, stat("/d/l"), api.Reply{Ino: 2, Kind: api.KFile, Size: 2, Links: 1})
	tells(t, x, unlink("/d/l"), api.Reply{})
	tells(t, x, unlink("/d/f"), api.Reply{})
	holds(t, x, `1 dir [d g] [3 6]`, `3 dir [e] [4]`, `4 dir [] []`, `6 dir [] []`, `next 7`)
}

func TestRmdir(t *testing.T) {
	x := some(t)
	refuses(t, x, rmdir("/d"), api.ErrMore)
	tells(t, x, rmdir("/d/e"), api.Reply{})
	refuses(t, x, rmdir("/d"), api.ErrMore)
	does(t, x, unlink("/d/f"))
	tells(t, x, rmdir("/d"), api.Reply{})
	holds(t, x, `1 dir [a g] [2 6]`, `2 file "hi"`, `6 dir [] []`, `next 7`)
}

func TestUnlinkRmdirRefused(t *testing.T) {
	x := some(t)
	for _, op := range []func(string) api.Op{unlink, rmdir} {
		for path, code := range wrong() {
			refuses(t, x, op(path), code)
		}
		refuses(t, x, op("/"), api.ErrPath)
		refuses(t, x, op("/none"), api.ErrNone)
		refuses(t, x, op("/none/x"), api.ErrNone)
		refuses(t, x, op("/d/none"), api.ErrNone)
		refuses(t, x, op("/a/x"), api.ErrFile)
	}
	refuses(t, x, unlink("/d"), api.ErrDir)
	refuses(t, x, unlink("/g"), api.ErrDir)
	refuses(t, x, rmdir("/a"), api.ErrFile)
	refuses(t, x, rmdir("/d/f"), api.ErrFile)
	holds(t, x, someIs()...)
}

func TestRename(t *testing.T) {
	x := some(t)
	tells(t, x, rename("/a", "/b"), api.Reply{})
	holds(t, x, `1 dir [b d g] [2 3 6]`, `2 file "hi"`, `3 dir [e f] [4 5]`, `4 dir [] []`, `5 file ""`, `6 dir [] []`, `next 7`)
	tells(t, x, rename("/b", "/d/e/c"), api.Reply{})
	tells(t, x, rename("/d", "/g/d"), api.Reply{})
	tells(t, x, read("/g/d/e/c", 0, 9), api.Reply{Data: []byte("hi")})
	tells(t, x, rename("/g/d/e", "/A"), api.Reply{})
	holds(t, x, `1 dir [A g] [4 6]`, `2 file "hi"`, `3 dir [f] [5]`, `4 dir [c] [2]`, `5 file ""`, `6 dir [d] [3]`, `next 7`)
}

func TestRenameOntoSomething(t *testing.T) {
	x := some(t)
	tells(t, x, rename("/d/f", "/a"), api.Reply{})
	tells(t, x, rename("/d/e", "/g"), api.Reply{})
	holds(t, x, `1 dir [a d g] [5 3 4]`, `3 dir [] []`, `4 dir [] []`, `5 file ""`, `next 7`)
	does(t, x, create("/g/x"), create("/y"), link("/y", "/z"))
	tells(t, x, rename("/g", "/d"), api.Reply{})
	tells(t, x, rename("/d/x", "/y"), api.Reply{})
	tells(t, x, stat("/z"), api.Reply{Ino: 8, Kind: api.KFile, Links: 1})
	tells(t, x, stat("/y"), api.Reply{Ino: 7, Kind: api.KFile, Links: 1})
	holds(t, x, `1 dir [a d y z] [5 4 7 8]`, `4 dir [] []`, `5 file ""`, `7 file ""`, `8 file ""`, `next 9`)
}

func TestRenameOntoItself(t *testing.T) {
	x := some(t)
	does(t, x, link("/a", "/d/l"))
	before := x.All()
	for _, o := range []api.Op{rename("/a", "/a"), rename("/d", "/d"), rename("/d/f", "/d/f"), rename("/a", "/d/l"), rename("/d/l", "/a")} {
		tells(t, x, o, api.Reply{})
		if !Same(before, x.All()) {
			t.Errorf("%+v changed the tree", o)
		}
	}
}

func TestRenameRefused(t *testing.T) {
	x := some(t)
	for path, code := range wrong() {
		refuses(t, x, rename(path, "/x"), code)
		refuses(t, x, rename("/a", path), code)
		refuses(t, x, rename("/none", path), code)
		refuses(t, x, rename("/", path), api.ErrPath)
	}
	refuses(t, x, rename("/", "/x"), api.ErrPath)
	refuses(t, x, rename("/a", "/"), api.ErrPath)
	refuses(t, x, rename("/none", "/x"), api.ErrNone)
	refuses(t, x, rename("/none", "/none"), api.ErrNone)
	refuses(t, x, rename("/a/x", "/none/x"), api.ErrFile)
	refuses(t, x, rename("/d", "/d/x"), api.ErrLoop)
	refuses(t, x, rename("/d", "/d/e"), api.ErrLoop)
	refuses(t, x, rename("/d", "/d/none/x"), api.ErrLoop)
	refuses(t, x, rename("/d", "/d/f/x"), api.ErrLoop)
	refuses(t, x, rename("/none", "/none/x"), api.ErrNone)
	refuses(t, x, rename("/a", "/a/x"), api.ErrFile)
	refuses(t, x, rename("/a", "/d/f/x"), api.ErrFile)
	refuses(t, x, rename("/a", "/none/x"), api.ErrNone)
	refuses(t, x, rename("/d", "/a"), api.ErrFile)
	refuses(t, x, rename("/a", "/d"), api.ErrDir)
	refuses(t, x, rename("/a", "/g"), api.ErrDir)
	refuses(t, x, rename("/g", "/d"), api.ErrMore)
	refuses(t, x, rename("/d/e", "/d"), api.ErrMore)
	refuses(t, x, rename("/d/f", "/d"), api.ErrDir)
	holds(t, x, someIs()...)
}

// A directory whose path begins as another one's is not under it.
func TestRenameBeside(t *testing.T) {
	x := some(t)
	does(t, x, mkdir("/dd"))
	tells(t, x, rename("/d", "/dd/d"), api.Reply{})
	tells(t, x, stat("/dd/d/f"), api.Reply{Ino: 5, Kind: api.KFile, Links: 1})
}

// A Rename may bring names to where no path is short enough to find them; they come back.
func TestRenameBelowTheDepth(t *testing.T) {
	x := New()
	does(t, x, mkdir("/1"), mkdir("/1/2"), mkdir("/1/2/3"), mkdir("/1/2/3/4"), mkdir("/1/2/3/4/5"), create("/1/2/3/4/5/6"))
	does(t, x, mkdir("/a"), mkdir("/a/b"), rename("/1", "/a/b/1"))
	refuses(t, x, stat("/a/b/1/2/3/4/5"), api.ErrDeep)
	refuses(t, x, rmdir("/a/b/1/2/3/4"), api.ErrMore)
	back, err := Of(x.All())
	if err != nil || !Same(back.All(), x.All()) {
		t.Fatalf("Of a deep tree: %v", err)
	}
	does(t, back, rename("/a/b/1", "/1"))
	tells(t, back, stat("/1/2/3/4/5/6"), api.Reply{Ino: 7, Kind: api.KFile, Links: 1})
}

func TestLink(t *testing.T) {
	x := some(t)
	tells(t, x, link("/a", "/d/l"), api.Reply{})
	tells(t, x, link("/d/l", "/b"), api.Reply{})
	tells(t, x, stat("/a"), api.Reply{Ino: 2, Kind: api.KFile, Size: 2, Links: 3})
	does(t, x, write("/b", 1, "ey"))
	tells(t, x, read("/d/l", 0, 9), api.Reply{Data: []byte("hey")})
	holds(t, x, `1 dir [a b d g] [2 2 3 6]`, `2 file "hey"`, `3 dir [e f l] [4 5 2]`, `4 dir [] []`, `5 file ""`, `6 dir [] []`, `next 7`)
}

func TestLinkRefused(t *testing.T) {
	x := some(t)
	for path, code := range wrong() {
		refuses(t, x, link("/a", path), code)
		refuses(t, x, link("/none", path), code)
		refuses(t, x, link(path, "/x"), code)
		refuses(t, x, link(path, "/"), api.ErrPath)
	}
	refuses(t, x, link("/a", "/"), api.ErrPath)
	refuses(t, x, link("/", "/x"), api.ErrDir)
	refuses(t, x, link("/d", "/x"), api.ErrDir)
	refuses(t, x, link("/d", "/none/x"), api.ErrDir)
	refuses(t, x, link("/none", "/a"), api.ErrNone)
	refuses(t, x, link("/none", "/a/x"), api.ErrNone)
	refuses(t, x, link("/a/x", "/none/x"), api.ErrFile)
	refuses(t, x, link("/a", "/none/x"), api.ErrNone)
	refuses(t, x, link("/a", "/a/x"), api.ErrFile)
	refuses(t, x, link("/a", "/a"), api.ErrThere)
	refuses(t, x, link("/a", "/d"), api.ErrThere)
	refuses(t, x, link("/a", "/d/f"), api.ErrThere)
	holds(t, x, someIs()...)
}

func TestMostLinks(t *testing.T) {
	x := some(t)
	for i := 2; i <= api.MaxLinks; i++ {
		does(t, x, link("/a", fmt.Sprint("/d/l", i)))
	}
	tells(t, x, stat("/a"), api.Reply{Ino: 2, Kind: api.KFile, Size: 2, Links: 20})
	refuses(t, x, link("/a", "/more"), api.ErrMany)
	refuses(t, x, link("/d/l2", "/more"), api.ErrMany)
	refuses(t, x, link("/a", "/g"), api.ErrThere)
	refuses(t, x, link("/a", "/none/x"), api.ErrNone)
	refuses(t, x, link("/a", "/a/x"), api.ErrFile)
	does(t, x, rename("/a", "/b"), rename("/d/l2", "/d/f"), unlink("/b"), link("/d/f", "/b"))
	refuses(t, x, link("/b", "/a"), api.ErrMany)
	if n := x.Links(2); n != 20 {
		t.Errorf("Links: %d; want 20", n)
	}
}

func TestRead(t *testing.T) {
	x := some(t)
	does(t, x, write("/a", 0, "hello"))
	for _, c := range []struct {
		off, n int
		want   string
	}{
		{0, 5, "hello"}, {0, 9, "hello"}, {0, 2, "he"}, {0, 0, ""}, {1, 3, "ell"}, {4, 1, "o"}, {4, 2, "o"}, {5, 1, ""}, {6, 1, ""},
		{2001, 1, ""}, {math.MaxInt, math.MaxInt, ""}, {1, math.MaxInt, "ello"}, {math.MaxInt, 0, ""},
	} {
		tells(t, x, read("/a", c.off, c.n), api.Reply{Data: []byte(c.want)})
	}
	tells(t, x, read("/d/f", 0, 9), api.Reply{})
}

func TestWrite(t *testing.T) {
	x := some(t)
	for _, c := range []struct {
		off  int
		data string
		want string
	}{
		{2, "lp", "hilp"}, {0, "help", "help"}, {1, "", "help"}, {9, "", "help"}, {2000, "", "help"}, {1, "el", "help"}, {3, "lo", "hello"}, {1, "a", "hallo"}, {7, "x", "hallo\x00\x00x"}, {8, "y", "hallo\x00\x00xy"},
	} {
		tells(t, x, write("/a", c.off, c.data), api.Reply{N: len(c.data)})
		tells(t, x, read("/a", 0, 2000), api.Reply{Data: []byte(c.want)})
	}
	tells(t, x, write("/d/f", 3, "z"), api.Reply{N: 1})
	tells(t, x, read("/d/f", 0, 9), api.Reply{Data: []byte("\x00\x00\x00z")})
}

func TestTruncate(t *testing.T) {
	x := some(t)
	for _, c := range []struct {
		n    int
		want string
	}{
		{2, "hi"}, {4, "hi\x00\x00"}, {1, "h"}, {3, "h\x00\x00"}, {0, ""}, {2, "\x00\x00"}, {2000, strings.Repeat("\x00", 2000)},
	} {
		tells(t, x, truncate("/a", c.n), api.Reply{})
		tells(t, x, read("/a", 0, 2000), api.Reply{Data: []byte(c.want)})
	}
}

// What a file had behind a shorter end does not come back.
func TestCutBytesAreGone(t *testing.T) {
	x := some(t)
	does(t, x, write("/a", 0, "secret"), truncate("/a", 1), write("/a", 3, "t"))
	tells(t, x, read("/a", 0, 9), api.Reply{Data: []byte("s\x00\x00t")})
	does(t, x, truncate("/a", 0), truncate("/a", 3))
	tells(t, x, read("/a", 0, 9), api.Reply{Data: []byte("\x00\x00\x00")})
}

func TestMostBytes(t *testing.T) {
	x := some(t)
	full := strings.Repeat("x", 2000)
	tells(t, x, write("/a", 0, full), api.Reply{N: 2000})
	tells(t, x, stat("/a"), api.Reply{Ino: 2, Kind: api.KFile, Size: 2000, Links: 1})
	refuses(t, x, write("/a", 0, full+"x"), api.ErrRange)
	refuses(t, x, write("/a", 1, full), api.ErrRange)
	refuses(t, x, write("/a", 2000, "x"), api.ErrRange)
	refuses(t, x, write("/a", 1999, "xy"), api.ErrRange)
	refuses(t, x, write("/a", 2001, ""), api.ErrRange)
	refuses(t, x, write("/a", math.MaxInt, "x"), api.ErrRange)
	refuses(t, x, write("/a", math.MaxInt, ""), api.ErrRange)
	refuses(t, x, write("/a", -1, ""), api.ErrRange)
	refuses(t, x, write("/a", -1, "x"), api.ErrRange)
	refuses(t, x, write("/a", math.MinInt, full+full), api.ErrRange)
	tells(t, x, write("/a", 1999, "y"), api.Reply{N: 1})
	tells(t, x, write("/d/f", 1999, "y"), api.Reply{N: 1})
	tells(t, x, read("/d/f", 1998, 9), api.Reply{Data: []byte("\x00y")})
	refuses(t, x, truncate("/a", 2001), api.ErrRange)
	refuses(t, x, truncate("/a", math.MaxInt), api.ErrRange)
	refuses(t, x, truncate("/a", -1), api.ErrRange)
	refuses(t, x, truncate("/a", math.MinInt), api.ErrRange)
	refuses(t, x, read("/a", -1, 1), api.ErrRange)
	refuses(t, x, read("/a", 0, -1), api.ErrRange)
	refuses(t, x, read("/a", math.MinInt, math.MinInt), api.ErrRange)
	refuses(t, x, read("/a", 3000, -1), api.ErrRange)
}

func TestBytesRefused(t *testing.T) {
	x := some(t)
	ops := []func(string) api.Op{
		func(path string) api.Op { return read(path, -1, -1) },
		func(path string) api.Op { return write(path, -1, "x") },
		func(path string) api.Op { return truncate(path, -1) },
	}
	for _, op := range ops {
		for path, code := range wrong() {
			refuses(t, x, op(path), code)
		}
		refuses(t, x, op("/"), api.ErrDir)
		refuses(t, x, op("/d"), api.ErrDir)
		refuses(t, x, op("/none"), api.ErrNone)
		refuses(t, x, op("/none/x"), api.ErrNone)
		refuses(t, x, op("/a/x"), api.ErrFile)
		refuses(t, x, op("/a"), api.ErrRange)
	}
	holds(t, x, someIs()...)
}

// Each kind asks the fields that it is said to ask, and no others.
func TestFieldsNotAsked(t *testing.T) {
	x := some(t)
	for _, c := range []struct {
		op   api.Op
		want api.Reply
	}{
		{create("/b"), api.Reply{Ino: 7}},
		{mkdir("/c"), api.Reply{Ino: 8}},
		{link("/b", "/e"), api.Reply{}},
		{rename("/e", "/f"), api.Reply{}},
		{unlink("/b"), api.Reply{}},
		{rmdir("/c"), api.Reply{}},
		{stat("/a"), api.Reply{Ino: 2, Kind: api.KFile, Size: 2, Links: 1}},
		{readdir("/d"), api.Reply{Names: []string{"e", "f"}}},
	} {
		c.op.Off, c.op.N, c.op.Snap, c.op.Data = -1, -1, 99, make([]byte, 3000)
		if c.op.To == "" {
			c.op.To = "?"
		}
		tells(t, x, c.op, c.want)
	}
	tells(t, x, api.Op{Kind: api.OpRead, Path: "/a", N: 1, To: "?", Data: make([]byte, 3000), Snap: -1}, api.Reply{Data: []byte("h")})
	tells(t, x, api.Op{Kind: api.OpWrite, Path: "/a", N: -1, To: "?", Data: []byte("H"), Snap: -1}, api.Reply{N: 1})
	tells(t, x, api.Op{Kind: api.OpTruncate, Path: "/a", N: 1, Off: -1, To: "?", Data: make([]byte, 3000), Snap: -1}, api.Reply{})
	tells(t, x, read("/a", 0, 9), api.Reply{Data: []byte("H")})
}

func TestStat(t *testing.T) {
	x := some(t)
	tells(t, x, stat("/"), api.Reply{Ino: 1, Kind: api.KDir, Size: 3, Links: 1})
	tells(t, x, stat("/a"), api.Reply{Ino: 2, Kind: api.KFile, Size: 2, Links: 1})
	tells(t, x, stat("/d"), api.Reply{Ino: 3, Kind: api.KDir, Size: 2, Links: 1})
	tells(t, x, stat("/g"), api.Reply{Ino: 6, Kind: api.KDir, Links: 1})
	tells(t, x, stat("/d/f"), api.Reply{Ino: 5, Kind: api.KFile, Links: 1})
	tells(t, New(), stat("/"), api.Reply{Ino: 1, Kind: api.KDir, Links: 1})
}

func TestReaddir(t *testing.T) {
	x := New()
	tells(t, x, readdir("/"), api.Reply{})
	does(t, x, create("/b"), create("/a"), mkdir("/B"), create("/a-"), create("/_"), create("/9"), create("/aa"), create("/10"), create("/..."), mkdir("/-"))
	tells(t, x, readdir("/"), api.Reply{Names: []string{"-", "...", "10", "9", "B", "_", "a", "a-", "aa", "b"}})
	tells(t, x, readdir("/B"), api.Reply{})
	refuses(t, x, readdir("/a"), api.ErrFile)
}

func TestStatReaddirRefused(t *testing.T) {
	x := some(t)
	for _, op := range []func(string) api.Op{stat, readdir} {
		for path, code := range wrong() {
			refuses(t, x, op(path), code)
		}
		refuses(t, x, op("/none"), api.ErrNone)
		refuses(t, x, op("/none/x"), api.ErrNone)
		refuses(t, x, op("/a/x"), api.ErrFile)
	}
}

func TestOtherKinds(t *testing.T) {
	x := some(t)
	for _, kind := range []int{0, -1, api.OpSnap, api.OpUnsnap, api.OpSnaps, api.OpKinds + 1, 99, math.MaxInt, math.MinInt} {
		refuses(t, x, api.Op{Kind: kind, Path: "/a", To: "/x"}, api.ErrArg)
		refuses(t, x, api.Op{Kind: kind}, api.ErrArg)
	}
}

// P5.2

func TestAll(t *testing.T) {
	holds(t, New(), `1 dir [] []`, `next 2`)
	holds(t, some(t), someIs()...)
	for _, n := range some(t).All().Nodes {
		if n.Kind == api.KDir && len(n.Data) > 0 || n.Kind == api.KFile && len(n.Names)+len(n.Inos) > 0 {
			t.Errorf("%+v: has what its kind has not", n)
		}
	}
}

func dir(ino int, entries ...any) api.Node {
	n := api.Node{Ino: ino, Kind: api.KDir}
	for i := 0; i < len(entries); i += 2 {
		n.Names = append(n.Names, entries[i].(string))
		n.Inos = append(n.Inos, entries[i+1].(int))
	}
	return n
}

func file(ino int, data string) api.Node {
	return api.Node{Ino: ino, Kind: api.KFile, Data: []byte(data)}
}

func plain(next int, l ...api.Node) api.Tree { return api.Tree{Nodes: l, Next: next} }

// many is a root with n more inodes, each a file.
func many(n int) api.Tree {
	x := plain(n+2, api.Node{Ino: 1, Kind: api.KDir})
	for i := range n {
		x.Nodes[0].Names = append(x.Nodes[0].Names, fmt.Sprintf("f%03d", i))
		x.Nodes[0].Inos = append(x.Nodes[0].Inos, i+2)
		x.Nodes = append(x.Nodes, file(i+2, ""))
	}
	return x
}

// linked is a root with one file that has n names.
func linked(n int) api.Tree {
	x := many(n)
	for i := range x.Nodes[0].Inos {
		x.Nodes[0].Inos[i] = 2
	}
	x.Nodes = x.Nodes[:2]
	return x
}

// chain is n directories, each but the first in the one ahead of it.
func chain(n int) api.Tree {
	x := plain(n + 1)
	for i := 1; i < n; i++ {
		x.Nodes = append(x.Nodes, dir(i, "d", i+1))
	}
	x.Nodes = append(x.Nodes, dir(n))
	return x
}

func TestOfWhatMayBe(t *testing.T) {
	for i, x := range []api.Tree{
		plain(2, dir(1)),
		plain(1<<40, dir(1)),
		plain(7, dir(1)),
		plain(3, dir(1, "a", 2), file(2, "")),
		plain(3, dir(1, "a", 2, "b", 2), file(2, "x")),
		plain(9, dir(1, "B", 4, "a", 8), dir(4, "B", 8, "a", 7), dir(7), file(8, "xyz")),
		plain(6, dir(1, "z", 5), dir(2), dir(5, "y", 2)),
		plain(1<<40, dir(1, "a", 1<<40-1), file(1<<40-1, "")),
		plain(3, dir(1, strings.Repeat("n", 12), 2), file(2, strings.Repeat("x", 2000))),
		plain(3, dir(1, "a", 2), api.Node{Ino: 2, Kind: api.KFile, Data: []byte("x"), Names: []string{"?", "?"}, Inos: []int{7}}),
		plain(2, api.Node{Ino: 1, Kind: api.KDir, Data: make([]byte, 3000)}),
		plain(2, api.Node{Ino: 1, Kind: api.KDir, Data: []byte{}, Names: []string{}, Inos: []int{}}),
		many(59), linked(20), chain(2), chain(7), chain(8), chain(60),
	} {
		y, err := Of(x)
		if err != nil || y == nil {
			t.Errorf("tree %d: %v", i, err)
			continue
		}
		all := y.All()
		if !Same(all, x) || !Same(x, all) {
			t.Errorf("tree %d: All is %+v; want %+v", i, all, x)
		}
		for _, n := range all.Nodes {
			if n.Kind == api.KDir && len(n.Data) > 0 || n.Kind == api.KFile && len(n.Names)+len(n.Inos) > 0 {
				t.Errorf("tree %d: All has what the kind of %d has not", i, n.Ino)
			}
		}
	}
}

func TestOfWhatMayNotBe(t *testing.T) {
	a := file(2, "")
	for what, x := range map[string]api.Tree{
		"nothing":               {},
		"no inode":              plain(2),
		"next 0":                plain(0, dir(1)),
		"next 1":                plain(1, dir(1)),
		"next below 0":          plain(-5, dir(1)),
		"next above 2^40":       plain(1<<40+1, dir(1)),
		"next the greatest":     plain(math.MaxInt, dir(1)),
		"next given":            plain(2, dir(1, "a", 2), a),
		"next below a number":   plain(3, dir(1, "a", 5), file(5, "")),
		"no root":               plain(3, dir(2)),
		"root 0":                plain(2, dir(0)),
		"root a file":           plain(2, file(1, "")),
		"root of no kind":       plain(2, api.Node{Ino: 1}),
		"a number 0":            plain(3, dir(0), dir(1, "a", 0)),
		"a number below 0":      plain(3, dir(-1), dir(1, "a", -1)),
		"falling numbers":       plain(4, dir(1, "a", 2, "b", 3), file(3, ""), a),
		"root behind":           plain(3, a, dir(1, "a", 2)),
		"a number twice":        plain(3, dir(1, "a", 2), a, a),
		"the root twice":        plain(2, dir(1), dir(1)),
		"kind 0":                plain(3, dir(1, "a", 2), api.Node{Ino: 2}),
		"kind 3":                plain(3, dir(1, "a", 2), api.Node{Ino: 2, Kind: 3}),
		"kind below 0":          plain(3, dir(1, "a", 2), api.Node{Ino: 2, Kind: -1}),
		"falling names":         plain(4, dir(1, "b", 2, "a", 3), a, file(3, "")),
		"falling by bytes":      plain(4, dir(1, "a", 2, "B", 3), a, file(3, "")),
		"a name twice":          plain(4, dir(1, "a", 2, "a", 3), a, file(3, "")),
		"an empty name":         plain(3, dir(1, "", 2), a),
		"a dot":                 plain(3, dir(1, ".", 2), a),
		"two dots":              plain(3, dir(1, "..", 2), a),
		"a slash":               plain(3, dir(1, "/", 2), a),
		"two names in one":      plain(3, dir(1, "a/b", 2), a),
		"a blank":               plain(3, dir(1, "a b", 2), a),
		"a name of 13":          plain(3, dir(1, strings.Repeat("n", 13), 2), a),
		"a very long name":      plain(3, dir(1, strings.Repeat("n", 1<<20), 2), a),
		"leads nowhere":         plain(3, dir(1, "a", 2)),
		"leads to 0":            plain(3, dir(1, "a", 0)),
		"leads to next":         plain(3, dir(1, "a", 2, "b", 3), a),
		"leads to the root":     plain(2, dir(1, "a", 1)),
		"leads back":            plain(3, dir(1, "a", 2), dir(2, "b", 1)),
		"no name":               plain(3, dir(1), a),
		"a directory no name":   plain(3, dir(1), dir(2)),
		"a directory two names": plain(3, dir(1, "a", 2, "b", 2), dir(2)),
		"two of two":            plain(4, dir(1, "a", 2, "b", 3), dir(2, "c", 3), dir(3)),
		"in itself":             plain(3, dir(1), dir(2, "a", 2)),
		"named and in itself":   plain(3, dir(1, "a", 2), dir(2, "b", 2)),
		"a ring apart":          plain(4, dir(1), dir(2, "a", 3), dir(3, "b", 2)),
		"a ring with a file":    plain(5, dir(1, "f", 4), dir(2, "a", 3), dir(3, "b", 2, "f", 4), file(4, "")),
		"a ring's own file":     plain(5, dir(1), dir(2, "a", 3), dir(3, "b", 2, "f", 4), file(4, "")),
		"fewer numbers":         plain(3, api.Node{Ino: 1, Kind: api.KDir, Names: []string{"a"}}, a),
		"more numbers":          plain(3, api.Node{Ino: 1, Kind: api.KDir, Names: []string{"a"}, Inos: []int{2, 2}}, a),
		"numbers without names": plain(2, api.Node{Ino: 1, Kind: api.KDir, Inos: []int{1}}),
		"2001 bytes":            plain(3, dir(1, "a", 2), file(2, strings.Repeat("x", 2001))),
		"61 inodes":             many(60),
		"61 directories":        chain(61),
		"many inodes":           many(5000),
		"21 links":              linked(21),
		"many links":            linked(5000),
	} {
		if y, err := Of(x); y != nil || err != error(api.ErrArg) {
			t.Errorf("%s: %v, %#v; want none, ErrArg", what, y, err)
		}
	}
}

// A tree of plain data goes on as the one did that the data came from.
func TestOfGoesOn(t *testing.T) {
	x := some(t)
	does(t, x, link("/a", "/d/l"), create("/z"), unlink("/z"))
	y, err := Of(x.All())
	if err != nil {
		t.Fatal(err)
	}
	for _, z := range []*T{x, y} {
		tells(t, z, unlink("/a"), api.Reply{})
		tells(t, z, stat("/d/l"), api.Reply{Ino: 2, Kind: api.KFile, Size: 2, Links: 1})
		tells(t, z, create("/z"), api.Reply{Ino: 8})
		tells(t, z, rmdir("/g"), api.Reply{})
	}
	if !Same(x.All(), y.All()) {
		t.Errorf("%+v and %+v", x.All(), y.All())
	}
}

func TestSame(t *testing.T) {
	other := func(kind int) api.Node {
		return api.Node{Ino: 2, Kind: kind, Data: []byte("x"), Names: []string{"a"}, Inos: []int{1}}
	}
	turned := func(n api.Node, turn func(n *api.Node)) api.Tree {
		n.Data, n.Names, n.Inos = bytes.Clone(n.Data), slices.Clone(n.Names), slices.Clone(n.Inos)
		turn(&n)
		return plain(3, n)
	}
	turns := []struct {
		what            string
		turn            func(n *api.Node)
		file, dir, none bool // whether it is still the same, by kind
	}{
		{"nothing", func(n *api.Node) {}, true, true, true},
		{"Ino", func(n *api.Node) { n.Ino = 3 }, false, false, false},
		{"Kind", func(n *api.Node) { n.Kind += 5 }, false, false, false},
		{"a byte", func(n *api.Node) { n.Data[0]++ }, false, true, false},
		{"no byte", func(n *api.Node) { n.Data = nil }, false, true, false},
		{"a name", func(n *api.Node) { n.Names[0] = "b" }, true, false, false},
		{"no name", func(n *api.Node) { n.Names = nil }, true, false, false},
		{"one more name", func(n *api.Node) { n.Names = append(n.Names, "b") }, true, false, false},
		{"a number", func(n *api.Node) { n.Inos[0]++ }, true, false, false},
		{"no number", func(n *api.Node) { n.Inos = nil }, true, false, false},
	}
	for _, c := range turns {
		for kind, want := range map[int]bool{api.KFile: c.file, api.KDir: c.dir, 0: c.none, 3: c.none, -1: c.none} {
			a, b := plain(3, other(kind)), turned(other(kind), c.turn)
			if Same(a, b) != want || Same(b, a) != want {
				t.Errorf("kind %d with another %s: want %v", kind, c.what, want)
			}
		}
	}
}

func TestSameOfLists(t *testing.T) {
	a, b := file(2, "x"), file(3, "x")
	for _, c := range []struct {
		x, y api.Tree
		want bool
	}{
		{api.Tree{}, api.Tree{}, true},
		{api.Tree{}, api.Tree{Nodes: []api.Node{}}, true},
		{plain(2), plain(3), false},
		{plain(2, a), plain(2), false},
		{plain(2, a, b), plain(2, a), false},
		{plain(2, a, b), plain(2, a, b), true},
		{plain(2, a, b), plain(2, b, a), false},
		{plain(2, a, b), plain(7, a, b), false},
		{plain(2, file(2, "")), plain(2, api.Node{Ino: 2, Kind: api.KFile}), true},
		{plain(2, dir(2)), plain(2, api.Node{Ino: 2, Kind: api.KDir, Names: []string{}, Inos: []int{}}), true},
		{plain(2, api.Node{}), plain(2, api.Node{Data: []byte{}, Names: []string{}, Inos: []int{}}), true},
		{plain(2, dir(2, "a", 1, "b", 1)), plain(2, dir(2, "b", 1, "a", 1)), false},
	} {
		if Same(c.x, c.y) != c.want || Same(c.y, c.x) != c.want {
			t.Errorf("Same(%+v, %+v): want %v", c.x, c.y, c.want)
		}
	}
}

func TestFind(t *testing.T) {
	x := some(t)
	for path, want := range map[string]int{"/": 1, "/a": 2, "/d": 3, "/d/e": 4, "/d/f": 5, "/g": 6} {
		if ino, err := x.Find(path); ino != want || err != nil {
			t.Errorf("Find(%q): %d, %v; want %d", path, ino, err, want)
		}
	}
	bad := wrong()
	for path, code := range map[string]api.Errno{"/none": api.ErrNone, "/none/x": api.ErrNone, "/d/none": api.ErrNone, "/A": api.ErrNone, "/a/x": api.ErrFile, "/a/x/y": api.ErrFile, "/d/f/x": api.ErrFile} {
		bad[path] = code
	}
	for path, code := range bad {
		if ino, err := x.Find(path); ino != 0 || err != error(code) {
			t.Errorf("Find(%q): %d, %#v; want 0 and the bare %v", path, ino, err, code)
		}
	}
}

func TestLinks(t *testing.T) {
	x := some(t)
	does(t, x, link("/a", "/l"), link("/a", "/d/e/l"))
	for ino, want := range map[int]int{1: 1, 2: 3, 3: 1, 4: 1, 5: 1, 6: 1, 7: 0, 0: 0, -1: 0, math.MaxInt: 0} {
		if got := x.Links(ino); got != want {
			t.Errorf("Links(%d): %d; want %d", ino, got, want)
		}
	}
	does(t, x, unlink("/a"), unlink("/l"), unlink("/d/e/l"))
	if n := x.Links(2); n != 0 {
		t.Errorf("Links of what is gone: %d", n)
	}
}

func TestCopy(t *testing.T) {
	changes := []api.Op{write("/a", 1, "o"), truncate("/d/f", 3), create("/b"), mkdir("/g/h"), unlink("/d/f"), rmdir("/d/e"), rename("/a", "/g/a"), link("/b", "/d/b")}
	x := some(t)
	y := x.Copy()
	holds(t, y, someIs()...)
	does(t, y, changes...)
	holds(t, x, someIs()...)
	z := x.Copy()
	does(t, x, changes...)
	holds(t, z, someIs()...)
	if !Same(x.All(), y.All()) {
		t.Errorf("a tree and its copy, after the same operations:\n%+v\n%+v", x.All(), y.All())
	}
}

func TestReads(t *testing.T) {
	for kind := -3; kind < 30; kind++ {
		want := kind == 7 || kind == 10 || kind == 11
		if Reads(kind) != want {
			t.Errorf("Reads(%d): want %v", kind, want)
		}
	}
}

// A copy and what it is of go apart at the first operation already, whatever it is.
func TestCopyGoesApartAtOnce(t *testing.T) {
	for _, o := range []api.Op{unlink("/a"), rmdir("/g"), rmdir("/d/e"), unlink("/d/f"), rename("/a", "/z"), rename("/a", "/d/f"), rename("/d/e", "/g"), link("/a", "/0"), create("/0"), mkdir("/d/0"), write("/a", 0, "o"), write("/a", 2, "o"), truncate("/a", 1), truncate("/a", 3)} {
		x := some(t)
		y := x.Copy()
		does(t, y, o)
		holds(t, x, someIs()...)
		if Same(x.All(), y.All()) {
			t.Errorf("%+v: nothing changed", o)
		}
		x, y = y, x.Copy()
		does(t, y, o)
		if !Same(x.All(), y.All()) {
			t.Errorf("%+v: two copies differ", o)
		}
	}
}

// P5.3

func TestNil(t *testing.T) {
	var none *T
	for kind := range api.OpKinds + 2 {
		refuses(t, none, api.Op{Kind: kind, Path: "/a", To: "/b"}, api.ErrArg)
	}
	refuses(t, none, stat("/"), api.ErrArg)
	refuses(t, none, stat("?"), api.ErrArg)
	holds(t, none, `1 dir [] []`, `next 2`)
	holds(t, none.Copy(), `1 dir [] []`, `next 2`)
	if ino, err := none.Find("/"); ino != 1 || err != nil {
		t.Errorf("Find of / in nil: %d, %v", ino, err)
	}
	if ino, err := none.Find("/a"); ino != 0 || err != error(api.ErrNone) {
		t.Errorf("Find of /a in nil: %d, %v", ino, err)
	}
	if none.Links(1) != 1 || none.Links(2) != 0 {
		t.Errorf("Links in nil: %d, %d", none.Links(1), none.Links(2))
	}
}

func TestZero(t *testing.T) {
	asks := []func(x *T){
		func(x *T) { holds(t, x, `1 dir [] []`, `next 2`) },
		func(x *T) { holds(t, x.Copy(), `1 dir [] []`, `next 2`) },
		func(x *T) { tells(t, x, stat("/"), api.Reply{Ino: 1, Kind: api.KDir, Links: 1}) },
		func(x *T) { refuses(t, x, unlink("/a"), api.ErrNone) },
		func(x *T) { refuses(t, x, create("/a/b"), api.ErrNone) },
		func(x *T) {
			if ino, err := x.Find("/"); ino != 1 || err != nil || x.Links(1) != 1 || x.Links(2) != 0 {
				t.Errorf("Find and Links in a zero tree: %d, %v", ino, err)
			}
		},
		func(x *T) {},
	}
	for _, ask := range asks {
		var zero T
		ask(&zero)
		tells(t, &zero, mkdir("/d"), api.Reply{Ino: 2})
		tells(t, &zero, create("/d/a"), api.Reply{Ino: 3})
		holds(t, &zero, `1 dir [d] [2]`, `2 dir [a] [3]`, `3 file ""`, `next 4`)
	}
}

// P5.4

func TestHandedInIsNeitherChangedNorKept(t *testing.T) {
	x := some(t)
	room := []byte("xhelloy")
	o := api.Op{Kind: api.OpWrite, Path: "/a", Data: room[1:6]}
	does(t, x, o)
	does(t, x, write("/a", 5, "!!!"), write("/a", 0, "H"))
	if string(room) != "xhelloy" {
		t.Errorf("Data became %q", room)
	}
	room[1] = '?'
	tells(t, x, read("/a", 0, 9), api.Reply{Data: []byte("Hello!!!")})

	in := x.All()
	y, err := Of(in)
	if err != nil {
		t.Fatal(err)
	}
	does(t, y, write("/a", 0, "J"), write("/a", 8, "?"), create("/0"), rename("/d", "/g/d"), unlink("/g/d/f"))
	if !Same(in, x.All()) {
		t.Errorf("Of's tree changed what it was made of")
	}
	z, _ := Of(in)
	spoil(in)
	if !Same(z.All(), x.All()) {
		t.Errorf("Of kept what it was made of")
	}
}

// spoil changes all that a tree of plain data has.
func spoil(x api.Tree) {
	for i, n := range x.Nodes {
		for j := range n.Data {
			n.Data[j] = '?'
		}
		for j := range n.Names {
			n.Names[j], n.Inos[j] = "?", -1
		}
		_, _, _ = append(n.Data, '?'), append(n.Names, "?"), append(n.Inos, -1)
		x.Nodes[i] = api.Node{}
	}
}

func TestAnswersAreNewMemory(t *testing.T) {
	x := some(t)
	does(t, x, write("/d/f", 0, "bytes"))
	y := x.Copy()
	spoil(x.All())
	r, _ := x.Do(read("/d/f", 1, 2))
	r.Data[0] = '?'
	_ = append(r.Data, "???"...)
	r, _ = x.Do(readdir("/"))
	r.Names[0] = "?"
	_ = append(r.Names, "?")
	if !Same(x.All(), y.All()) {
		t.Errorf("the tree is %+v; want %+v", x.All(), y.All())
	}
	tells(t, x, readdir("/"), api.Reply{Names: []string{"a", "d", "g"}})
	tells(t, x, read("/d/f", 0, 9), api.Reply{Data: []byte("bytes")})
	a, b := x.All(), x.All()
	spoil(a)
	if !Same(b, y.All()) {
		t.Errorf("two answers of All share memory")
	}
}

func TestExample(t *testing.T) {
	x := New()
	tells(t, x, create("/a"), api.Reply{Ino: 2})
	does(t, x, link("/a", "/b"), unlink("/a"))
	tells(t, x, stat("/b"), api.Reply{Ino: 2, Kind: api.KFile, Links: 1})
}
