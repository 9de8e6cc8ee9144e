package tree

import (
	"fmt"
	"slices"
	"sort"
	"strings"
	"testing"

	"dolmen/api"
	"dolmen/fault"
	"dolmen/names"
)

// dice gives numbers by a rule, the same ones each time.
type dice uint64

func (d *dice) below(n int) int {
	*d = *d*6364136223846793005 + 1442695040888963407
	return int(*d >> 33 % dice(n))
}

// thing is what stands at a path; paths to one file share it.
type thing struct {
	ino, kind int
	data      string
}

// paths is a second tree, made of whole paths alone, that the tree is held against.
type paths struct {
	at   map[string]*thing
	next int
}

func newPaths() *paths {
	return &paths{at: map[string]*thing{"/": {ino: 1, kind: api.KDir}}, next: 2}
}

func inside(dir, name string) string {
	return strings.TrimSuffix(dir, "/") + "/" + name
}

// in is the names of a directory.
func (p *paths) in(dir string) []string {
	var out []string
	for path := range p.at {
		if i := strings.LastIndex(path, "/"); path != "/" && path == inside(dir, path[i+1:]) {
			out = append(out, path[i+1:])
		}
	}
	sort.Strings(out)
	return out
}

func (p *paths) links(x *thing) int {
	n := 0
	for _, y := range p.at {
		if x == y {
			n++
		}
	}
	return n
}

func (p *paths) inodes() int {
	seen := map[*thing]bool{}
	for _, x := range p.at {
		seen[x] = true
	}
	return len(seen)
}

func (p *paths) find(path string) (*thing, error) {
	l, err := names.Split(path)
	if err != nil {
		return nil, err
	}
	here := "/"
	for _, name := range l {
		if p.at[here].kind == api.KFile {
			return nil, api.ErrFile
		}
		here = inside(here, name)
		if p.at[here] == nil {
			return nil, api.ErrNone
		}
	}
	return p.at[here], nil
}

func (p *paths) parent(path string) error {
	_, _, err := names.Parent(path)
	return err
}

// above is the error of finding a path's directory.
func (p *paths) above(path string) error {
	dir, _, _ := names.Parent(path)
	x, err := p.find(dir)
	if err == nil && x.kind == api.KFile {
		return api.ErrFile
	}
	return err
}

// first is the first of some rules, asked one after the other, that is broken.
func first(rules ...func() error) error {
	for _, rule := range rules {
		if err := rule(); err != nil {
			return err
		}
	}
	return nil
}

func when(wrong bool, code api.Errno) error {
	if wrong {
		return code
	}
	return nil
}

func (p *paths) do(o api.Op) (r api.Reply, err error) {
	var x *thing
	isDir := func() bool { return x.kind == api.KDir }
	parent := func() error { return p.parent(o.Path) }
	parentTo := func() error { return p.parent(o.To) }
	found := func() (err error) { x, err = p.find(o.Path); return err }
	noDir := func() error { return when(isDir(), api.ErrDir) }
	noFile := func() error { return when(!isDir(), api.ErrFile) }
	aboveTo := func() error { return p.above(o.To) }
	switch o.Kind {
	case api.OpCreate, api.OpMkdir:
		err = first(parent, func() error { return p.above(o.Path) },
			func() error { return when(p.at[o.Path] != nil, api.ErrThere) },
			func() error { return when(p.inodes() >= 60 || p.next >= 1<<40, api.ErrMany) })
		if err == nil {
			p.at[o.Path] = &thing{ino: p.next, kind: map[int]int{api.OpCreate: api.KFile, api.OpMkdir: api.KDir}[o.Kind]}
			r.Ino = p.next
			p.next++
		}
	case api.OpUnlink:
		if err = first(parent, found, noDir); err == nil {
			delete(p.at, o.Path)
		}
	case api.OpRmdir:
		if err = first(parent, found, noFile, func() error { return when(len(p.in(o.Path)) > 0, api.ErrMore) }); err == nil {
			delete(p.at, o.Path)
		}
	case api.OpRename:
		err = first(parent, parentTo, found,
			func() error { return when(isDir() && strings.HasPrefix(o.To, o.Path+"/"), api.ErrLoop) },
			aboveTo, func() error { return p.onto(o, x) })
		if err == nil && p.at[o.To] != x {
			p.move(o.Path, o.To)
		}
	case api.OpLink:
		err = first(parentTo, found, noDir, aboveTo,
			func() error { return when(p.at[o.To] != nil, api.ErrThere) },
			func() error { return when(p.links(x) >= 20, api.ErrMany) })
		if err == nil {
			p.at[o.To] = x
		}
	case api.OpRead:
		err = first(found, noDir, func() error { return when(o.Off < 0 || o.N < 0, api.ErrRange) })
		for i := o.Off; err == nil && i < len(x.data) && i < o.Off+o.N; i++ {
			r.Data = append(r.Data, x.data[i])
		}
	case api.OpWrite:
		err = first(found, noDir, func() error { return when(o.Off < 0 || o.Off+len(o.Data) > 2000, api.ErrRange) })
		if err == nil && len(o.Data) > 0 {
			x.data += strings.Repeat("\x00", max(0, o.Off+len(o.Data)-len(x.data)))
			x.data = x.data[:o.Off] + string(o.Data) + x.data[o.Off+len(o.Data):]
			r.N = len(o.Data)
		}
	case api.OpTruncate:
		err = first(found, noDir, func() error { return when(o.N < 0 || o.N > 2000, api.ErrRange) })
		if err == nil {
			x.data = (x.data + strings.Repeat("\x00", o.N))[:o.N]
		}
	case api.OpStat:
		if err = first(found); err == nil && isDir() {
			r = api.Reply{Ino: x.ino, Kind: x.kind, Size: len(p.in(o.Path)), Links: 1}
		} else if err == nil {
			r = api.Reply{Ino: x.ino, Kind: x.kind, Size: len(x.data), Links: p.links(x)}
		}
	case api.OpReaddir:
		if err = first(found, noFile); err == nil {
			r.Names = p.in(o.Path)
		}
	default:
		err = api.ErrArg
	}
	return r, err
}

// onto is why a Rename may not replace what stands at To.
func (p *paths) onto(o api.Op, x *thing) error {
	y := p.at[o.To]
	switch {
	case y == nil || y == x:
		return nil
	case x.kind == api.KDir && y.kind == api.KFile:
		return api.ErrFile
	case x.kind == api.KFile && y.kind == api.KDir:
		return api.ErrDir
	}
	return when(y.kind == api.KDir && len(p.in(o.To)) > 0, api.ErrMore)
}

func (p *paths) move(from, to string) {
	moved := map[string]*thing{}
	for path, x := range p.at {
		if path == from || strings.HasPrefix(path, from+"/") {
			moved[to+path[len(from):]] = x
			delete(p.at, path)
		}
	}
	for path, x := range moved {
		p.at[path] = x
	}
}

func (p *paths) shown() string {
	var out []string
	for path, x := range p.at {
		out = append(out, fmt.Sprintf("%s %d %d %q", path, x.ino, x.kind, x.data))
	}
	sort.Strings(out)
	return fmt.Sprint(strings.Join(out, "\n"), "\nnext ", p.next)
}

// shownPaths is a tree in paths' words.
func shownPaths(x api.Tree) string {
	nodes := map[int]api.Node{}
	for _, n := range x.Nodes {
		nodes[n.Ino] = n
	}
	var out []string
	var visit func(path string, ino int)
	visit = func(path string, ino int) {
		n := nodes[ino]
		out = append(out, fmt.Sprintf("%s %d %d %q", path, ino, n.Kind, n.Data))
		for i, name := range n.Names {
			visit(inside(path, name), n.Inos[i])
		}
	}
	visit("/", 1)
	sort.Strings(out)
	return fmt.Sprint(strings.Join(out, "\n"), "\nnext ", x.Next)
}

// anyPath is a path out of few names, so that most lead somewhere; some are none.
func anyPath(d *dice) string {
	switch d.below(40) {
	case 0:
		return "/"
	case 1:
		return []string{"", "a", "/a/", "/./a", "/a?", "/1/2/3/4/5/6/7", "/" + strings.Repeat("n", 13)}[d.below(7)]
	}
	s := ""
	for range 1 + min(d.below(4), d.below(7)) {
		s += "/" + []string{"a", "b", "c", "B", "d-", "e.", "f_", "10", "9", "a0"}[min(d.below(10), d.below(10))]
	}
	return s
}

// anyOp is an operation; of those that make a tree grow, none takes something away.
func anyOp(d *dice, grow bool) api.Op {
	kinds := []int{1, 1, 1, 2, 2, 2, 3, 4, 5, 5, 5, 6, 6, 6, 7, 8, 8, 9, 10, 11}
	if grow {
		kinds = []int{1, 1, 1, 1, 2, 2, 2, 2, 2, 2, 2, 2, 2, 2, 6, 6, 6, 6, 8, 11}
	}
	kind := kinds[d.below(len(kinds))]
	if d.below(200) == 0 {
		kind = d.below(30) - 5
	}
	return api.Op{
		Kind: kind, Path: anyPath(d), To: anyPath(d),
		Off:  []int{0, 0, 1, 3, 7, 1998, 2000, 2001, -1}[d.below(9)],
		N:    []int{0, 1, 2, 5, 9, 1999, 2000, 2001, -1}[d.below(9)],
		Data: []byte("abcdef")[:d.below(7)], Snap: d.below(3),
	}
}

// However operations follow each other, the tree tells what paths tell; what is refused changes nothing; and the tree is that of its own data.
func TestAgainstPaths(t *testing.T) {
	for seed := range 20 {
		d := dice(seed)
		x, p := New(), newPaths()
		for step := range 800 {
			o := anyOp(&d, seed%4 == 0)
			before := x.All()
			got, err := x.Do(o)
			want, wantErr := p.do(o)
			if shown(got) != shown(want) || fault.Inner(err) != wantErr {
				t.Fatalf("seed %d, step %d, %+v:\n got %s, %v\nwant %s, %v", seed, step, o, shown(got), err, shown(want), wantErr)
			}
			after := x.All()
			if (err != nil || Reads(o.Kind)) && !Same(before, after) {
				t.Fatalf("seed %d, step %d, %+v: the tree changed", seed, step, o)
			}
			if a, b := shownPaths(after), p.shown(); a != b {
				t.Fatalf("seed %d, step %d, %+v:\n got %s\nwant %s", seed, step, o, a, b)
			}
			y, err := Of(after)
			if err != nil || !Same(y.All(), after) {
				t.Fatalf("seed %d, step %d: Of(All()): %v", seed, step, err)
			}
			if step%7 == 0 {
				x = []*T{y, x.Copy()}[step%2]
			}
		}
	}
}

// The operations of TestAgainstPaths come upon every refusal, so that it holds them all.
func TestAgainstPathsSeesAll(t *testing.T) {
	var seen []api.Errno
	for seed := range 20 {
		d := dice(seed)
		x := New()
		for range 800 {
			_, err := x.Do(anyOp(&d, seed%4 == 0))
			seen = append(seen, fault.Code(err))
		}
	}
	for _, code := range []api.Errno{0, api.ErrArg, api.ErrPath, api.ErrName, api.ErrDeep, api.ErrNone, api.ErrThere, api.ErrDir, api.ErrFile, api.ErrMore, api.ErrLoop, api.ErrRange, api.ErrMany} {
		if !slices.Contains(seen, code) {
			t.Errorf("never told: %v", code)
		}
	}
}
