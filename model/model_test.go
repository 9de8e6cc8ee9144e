package model

import (
	"errors"
	"fmt"
	"math"
	"reflect"
	"slices"
	"testing"

	"dolmen/api"
	"dolmen/fault"
	"dolmen/tree"
)

func create(path string) api.Op  { return api.Op{Kind: api.OpCreate, Path: path} }
func mkdir(path string) api.Op   { return api.Op{Kind: api.OpMkdir, Path: path} }
func unlink(path string) api.Op  { return api.Op{Kind: api.OpUnlink, Path: path} }
func stat(path string) api.Op    { return api.Op{Kind: api.OpStat, Path: path} }
func readdir(path string) api.Op { return api.Op{Kind: api.OpReaddir, Path: path} }
func read(path string) api.Op    { return api.Op{Kind: api.OpRead, Path: path, N: api.MaxFile} }
func write(path, data string) api.Op {
	return api.Op{Kind: api.OpWrite, Path: path, Data: []byte(data)}
}
func snapshot() api.Op       { return api.Op{Kind: api.OpSnap} }
func unsnap(id int) api.Op   { return api.Op{Kind: api.OpUnsnap, Snap: id} }
func snapshots() api.Op      { return api.Op{Kind: api.OpSnaps} }
func ofKind(kind int) api.Op { return api.Op{Kind: kind, Path: "/a", To: "/b"} }

func at(id int, o api.Op) api.Op {
	o.Snap = id
	return o
}

// shown is a Reply as a text in which nil and an empty list are the same.
func shown(r api.Reply) string {
	return fmt.Sprintf("ino %d kind %d size %d links %d n %d %q %q %d", r.Ino, r.Kind, r.Size, r.Links, r.N, r.Data, r.Names, r.Snaps)
}

// whole is all that a model tells of itself.
func whole(m *M) string {
	s := fmt.Sprintf("next %d, live %q", m.NextID(), fmt.Sprintf("%v", m.Live()))
	for _, id := range m.Ids() {
		x, ok := m.Snap(id)
		s += fmt.Sprintf(", %d %v %q", id, ok, fmt.Sprintf("%v", x))
	}
	return s
}

// does does operations, none of which is to be refused.
func does(t *testing.T, m *M, l ...api.Op) *M {
	t.Helper()
	for _, o := range l {
		if _, err := m.Do(o); err != nil {
			t.Fatalf("%+v: %v", o, err)
		}
	}
	return m
}

// tells holds what an operation that is not refused tells against the Reply wanted.
func tells(t *testing.T, m *M, o api.Op, want api.Reply) {
	t.Helper()
	got, err := m.Do(o)
	if err != nil || shown(got) != shown(want) {
		t.Errorf("%+v:\n got %s, %v\nwant %s", o, shown(got), err, shown(want))
	}
}

// refuses holds an error against the Fault wanted, and sees that nothing is told and nothing changed.
func refuses(t *testing.T, m *M, o api.Op, op string, want api.Errno) {
	t.Helper()
	before := whole(m)
	r, err := m.Do(o)
	f, ok := err.(*api.Fault)
	if !ok || f.Op != op || f.Path != o.Path || f.Err != error(want) {
		t.Errorf("%+v: %#v; want a Fault of %s: %v", o, err, op, want)
	}
	if !reflect.DeepEqual(r, api.Reply{}) {
		t.Errorf("%+v: tells %s beside an error", o, shown(r))
	}
	if whole(m) != before {
		t.Errorf("%+v: refused, but changed the model", o)
	}
}

// P6.1: the document's examples.
func TestExamples(t *testing.T) {
	m := does(t, New(), create("/a"), snapshot(), unlink("/a"))
	tells(t, m, at(1, stat("/a")), api.Reply{Ino: 2, Kind: api.KFile, Links: 1})
	refuses(t, m, stat("/a"), "tree", api.ErrNone)

	m = does(t, New(), create("/a"), snapshot(), write("/a", "new"))
	tells(t, m, at(1, read("/a")), api.Reply{})
	tells(t, m, read("/a"), api.Reply{Data: []byte("new")})
}

// onLive is an operation of each kind up to OpReaddir, some of them refused.
func onLive() []api.Op {
	return []api.Op{
		create("/a"), create("/a"), create("a"), mkdir("/d"), mkdir("/none/d"), write("/a", "some"), write("/d", "some"),
		{Kind: api.OpWrite, Path: "/a", Off: -1}, {Kind: api.OpLink, Path: "/a", To: "/d/b"}, {Kind: api.OpLink, Path: "/d", To: "/d/c"},
		{Kind: api.OpRename, Path: "/a", To: "/c"}, {Kind: api.OpRename, Path: "/d", To: "/d/e"}, {Kind: api.OpTruncate, Path: "/c", N: 2},
		read("/c"), read("/a"), stat("/c"), stat("/"), readdir("/"), readdir("/c"), {Kind: api.OpRmdir, Path: "/d"},
		unlink("/d/b"), unlink("/d"), {Kind: api.OpRmdir, Path: "/d"}, {Kind: api.OpRmdir, Path: "/"}, readdir("/"),
	}
}

// P6.1: with Snap 0 the live tree tells, and an error of it is told as it is.
func TestLive(t *testing.T) {
	m, beside := New(), tree.New()
	for _, o := range onLive() {
		got, err := m.Do(o)
		want, wantErr := beside.Do(o)
		if shown(got) != shown(want) || !reflect.DeepEqual(err, wantErr) {
			t.Errorf("%+v:\n got %s, %v\nwant %s, %v", o, shown(got), err, shown(want), wantErr)
		}
		if !tree.Same(m.Live(), beside.All()) {
			t.Errorf("%+v: the live tree is %v; want %v", o, m.Live(), beside.All())
		}
	}
	if m.NextID() != 1 || len(m.Ids()) != 0 {
		t.Errorf("operations on the live tree made snapshots: %d, next %d", m.Ids(), m.NextID())
	}
}

// P6.1: an error of a tree stays outermost, so that errors.As tells it from one of the model's own.
func TestFaults(t *testing.T) {
	m := does(t, New(), mkdir("/d"), snapshot())
	for _, o := range []api.Op{stat("/none"), at(1, stat("/none")), at(1, read("/d")), at(1, readdir("none")), write("/d", "x")} {
		_, err := m.Do(o)
		var f *api.Fault
		if !errors.As(err, &f) || f.Op != "tree" || f.Path != o.Path || len(fault.Chain(err)) != 1 {
			t.Errorf("%+v: %#v; want the tree's own Fault", o, err)
		}
	}
}

// P6.1: on a snapshot the kinds that read tell what it holds.
func TestReadSnapshot(t *testing.T) {
	m := does(t, New(), create("/a"), write("/a", "old"), mkdir("/d"), snapshot(), write("/a", "newer"), create("/d/b"), snapshot(), unlink("/a"))
	tells(t, m, at(1, read("/a")), api.Reply{Data: []byte("old")})
	tells(t, m, at(2, read("/a")), api.Reply{Data: []byte("newer")})
	tells(t, m, at(1, stat("/d")), api.Reply{Ino: 3, Kind: api.KDir, Links: 1})
	tells(t, m, at(2, stat("/d")), api.Reply{Ino: 3, Kind: api.KDir, Size: 1, Links: 1})
	tells(t, m, at(1, readdir("/")), api.Reply{Names: []string{"a", "d"}})
	tells(t, m, at(1, readdir("/d")), api.Reply{})
	tells(t, m, at(2, readdir("/d")), api.Reply{Names: []string{"b"}})
	refuses(t, m, at(1, stat("/d/b")), "tree", api.ErrNone)
	refuses(t, m, at(1, readdir("/a")), "tree", api.ErrFile)
	refuses(t, m, at(2, api.Op{Kind: api.OpRead, Path: "/a", Off: -1}), "tree", api.ErrRange)
	refuses(t, m, read("/a"), "tree", api.ErrNone)
}

// P6.1: what is not there is ErrSnap, whatever else is wrong; what is there is only read, whatever else is wrong.
func TestRefusedOnSnapshot(t *testing.T) {
	m := does(t, New(), create("/a"), snapshot(), snapshot(), unsnap(1))
	for kind := api.OpCreate; kind <= api.OpReaddir; kind++ {
		for _, path := range []string{"/a", "/new", "/none/b", "", "/a/"} {
			o := api.Op{Kind: kind, Path: path, To: "none", Off: -1, N: -1}
			for _, id := range []int{1, 3, 4, 7, -1, -2, math.MinInt, math.MaxInt} {
				refuses(t, m, at(id, o), "snap", api.ErrSnap)
			}
			if kind != api.OpRead && kind != api.OpStat && kind != api.OpReaddir {
				refuses(t, m, at(2, o), "snap", api.ErrRead)
			}
		}
	}
	refuses(t, m, at(2, stat("")), "tree", api.ErrPath)
	refuses(t, m, at(2, stat("/none")), "tree", api.ErrNone)
}

// P6.1: six snapshots at once, and no number twice.
func TestSnap(t *testing.T) {
	m := New()
	for n := 1; n <= api.MaxSnaps; n++ {
		tells(t, m, at(n-3, api.Op{Kind: api.OpSnap, Path: "none", To: "none", Off: -1, N: -1}), api.Reply{N: n})
	}
	refuses(t, m, snapshot(), "snap", api.ErrMany)
	refuses(t, m, api.Op{Kind: api.OpSnap, Path: "/here", Snap: 99}, "snap", api.ErrMany)
	does(t, m, unsnap(6))
	tells(t, m, snapshot(), api.Reply{N: 7})
	does(t, m, unsnap(1), unsnap(4))
	tells(t, m, snapshot(), api.Reply{N: 8})
	tells(t, m, snapshot(), api.Reply{N: 9})
	refuses(t, m, snapshot(), "snap", api.ErrMany)
	tells(t, m, snapshots(), api.Reply{Snaps: []int{2, 3, 5, 7, 8, 9}})
	for _, id := range m.Ids() {
		does(t, m, unsnap(id))
	}
	tells(t, m, snapshot(), api.Reply{N: 10})
}

// P6.1: a snapshot is the live tree as it is, with the number that its next inode would have.
func TestSnapIsWhole(t *testing.T) {
	m := does(t, New(), create("/a"), unlink("/a"), mkdir("/d"), create("/d/b"), write("/d/b", "data"))
	live := m.Live()
	does(t, m, snapshot())
	if x, ok := m.Snap(1); !ok || !tree.Same(x, live) || !tree.Same(m.Live(), live) || x.Next != 5 {
		t.Errorf("the snapshot is %v, %v; the live tree was %v and is %v", x, ok, live, m.Live())
	}
}

// P6.1: only a snapshot that is there goes, and it alone.
func TestUnsnap(t *testing.T) {
	m := New()
	refuses(t, m, unsnap(1), "snap", api.ErrSnap)
	refuses(t, m, unsnap(0), "snap", api.ErrSnap)
	does(t, m, create("/a"), snapshot(), unlink("/a"), snapshot(), create("/b"), snapshot())
	for _, id := range []int{0, 4, -1, -2, math.MinInt, math.MaxInt} {
		refuses(t, m, api.Op{Kind: api.OpUnsnap, Path: "/here", Snap: id}, "snap", api.ErrSnap)
	}
	tells(t, m, api.Op{Kind: api.OpUnsnap, Path: "none", To: "none", Off: -1, N: -1, Snap: 2}, api.Reply{})
	refuses(t, m, unsnap(2), "snap", api.ErrSnap)
	refuses(t, m, at(2, readdir("/")), "snap", api.ErrSnap)
	tells(t, m, at(1, readdir("/")), api.Reply{Names: []string{"a"}})
	tells(t, m, at(3, readdir("/")), api.Reply{Names: []string{"b"}})
	tells(t, m, readdir("/"), api.Reply{Names: []string{"b"}})
}

// P6.1: the numbers, whatever else the operation says.
func TestSnaps(t *testing.T) {
	m := New()
	tells(t, m, snapshots(), api.Reply{})
	does(t, m, snapshot(), snapshot(), snapshot(), unsnap(2))
	tells(t, m, snapshots(), api.Reply{Snaps: []int{1, 3}})
	tells(t, m, api.Op{Kind: api.OpSnaps, Path: "none", To: "none", Off: -1, N: -1, Snap: 2}, api.Reply{Snaps: []int{1, 3}})
}

// P6.1: kinds that the document does not name are ErrArg, on whatever they are.
func TestOtherKinds(t *testing.T) {
	m := does(t, New(), create("/a"), snapshot())
	for _, kind := range []int{0, -1, -7, -10, -12, 15, 16, 99, math.MinInt, math.MaxInt} {
		for _, id := range []int{0, 1, 2, -1, math.MinInt, math.MaxInt} {
			refuses(t, m, at(id, ofKind(kind)), "snap", api.ErrArg)
			refuses(t, m, at(id, api.Op{Kind: kind}), "snap", api.ErrArg)
		}
	}
}

// P6.2: what there is, as it is.
func TestParts(t *testing.T) {
	m := New()
	if !tree.Same(m.Live(), tree.New().All()) || len(m.Ids()) != 0 || m.NextID() != 1 {
		t.Errorf("a new one: %v, %d, %d", m.Live(), m.Ids(), m.NextID())
	}
	does(t, m, create("/a"), snapshot(), mkdir("/b"), snapshot(), snapshot(), unsnap(2))
	if got := m.Ids(); !slices.Equal(got, []int{1, 3}) || m.NextID() != 4 {
		t.Errorf("Ids %d, NextID %d", got, m.NextID())
	}
	one, ok1 := m.Snap(1)
	three, ok3 := m.Snap(3)
	if !ok1 || !ok3 || !tree.Same(three, m.Live()) || len(one.Nodes) != 2 || len(three.Nodes) != 3 {
		t.Errorf("snapshots: %v, %v", one, three)
	}
	for _, id := range []int{0, 2, 4, -1, math.MinInt, math.MaxInt} {
		if x, ok := m.Snap(id); ok || !reflect.DeepEqual(x, api.Tree{}) {
			t.Errorf("Snap(%d): %v, %v", id, x, ok)
		}
	}
}

// P6.2: a copy and what it was made of go ways of their own.
func TestCopy(t *testing.T) {
	m := does(t, New(), create("/a"), write("/a", "data"), snapshot(), mkdir("/d"), snapshot())
	before := whole(m)
	c := m.Copy()
	if whole(c) != before || !c.Same(m) {
		t.Fatalf("a copy of %s is %s", before, whole(c))
	}
	more := []api.Op{write("/a", "else"), unlink("/a"), create("/d/b"), unsnap(1), snapshot(), snapshot()}
	does(t, c, more...)
	if whole(m) != before {
		t.Errorf("changed by way of its copy: %s", whole(m))
	}
	changed := whole(c)
	does(t, m, unsnap(2), unsnap(1), create("/e"), snapshot(), snapshot(), snapshot())
	if whole(c) != changed {
		t.Errorf("a copy changed by way of what it was made of: %s", whole(c))
	}
	if again := does(t, New(), create("/a"), write("/a", "data"), snapshot(), mkdir("/d"), snapshot()); !does(t, again, more...).Same(c) {
		t.Errorf("a copy goes on unlike what it was made of: %s; want %s", changed, whole(again))
	}
}

// P6.2: two are the same, if their trees, their snapshots and their next numbers are.
func TestSame(t *testing.T) {
	var zero M
	unlike := []*M{
		nil,
		does(t, New(), create("/a")),
		does(t, New(), create("/a"), unlink("/a")), // another next inode
		does(t, New(), create("/a"), write("/a", "x")),
		does(t, New(), snapshot()),
		does(t, New(), snapshot(), unsnap(1)), // another next number
		does(t, New(), snapshot(), snapshot(), unsnap(1)),
		does(t, New(), snapshot(), snapshot(), unsnap(2)), // like it but for a snapshot's number
		does(t, New(), snapshot(), snapshot()),
		does(t, New(), snapshot(), snapshot(), unsnap(1), unsnap(2)),
		does(t, New(), snapshot(), create("/a")),
		does(t, New(), create("/a"), snapshot()), // like it but for a snapshot's tree
	}
	for i, a := range unlike {
		for j, b := range unlike {
			if got := a.Same(b); got != (i == j) {
				t.Errorf("%d and %d of the list: %v", i, j, got)
			}
		}
		if !a.Same(a.Copy()) || !a.Copy().Same(a) {
			t.Errorf("%d of the list is not the same as its copy", i)
		}
	}
	var none *M
	for _, a := range []*M{none, &zero, New(), none.Copy(), new(M).Copy()} {
		for _, b := range []*M{none, {}, New(), none.Copy()} {
			if !a.Same(b) || !b.Same(a) {
				t.Errorf("nil, a zero one and a new one: %s, %s", whole(a), whole(b))
			}
		}
	}
}

// P6.2: of a nil one each Do is refused, and the rest is that of a new one.
func TestNil(t *testing.T) {
	var none *M
	for kind := -1; kind <= api.OpKinds+1; kind++ {
		for _, id := range []int{0, 1, -1} {
			refuses(t, none, at(id, ofKind(kind)), "snap", api.ErrArg)
			refuses(t, none, at(id, api.Op{Kind: kind, Path: "/p"}), "snap", api.ErrArg)
		}
	}
	if whole(none) != whole(New()) {
		t.Errorf("nil is %s", whole(none))
	}
	if x, ok := none.Snap(1); ok || !reflect.DeepEqual(x, api.Tree{}) {
		t.Errorf("Snap: %v, %v", x, ok)
	}
	c := none.Copy()
	tells(t, c, create("/a"), api.Reply{Ino: 2})
	tells(t, c, snapshot(), api.Reply{N: 1})
}

// P6.2: a zero one is a new one, whatever is asked of it first.
func TestZero(t *testing.T) {
	for kind := -1; kind <= api.OpKinds+1; kind++ {
		for _, id := range []int{0, 1} {
			var zero M
			m := New()
			got, err := zero.Do(at(id, ofKind(kind)))
			want, wantErr := m.Do(at(id, ofKind(kind)))
			if shown(got) != shown(want) || !reflect.DeepEqual(err, wantErr) || whole(&zero) != whole(m) {
				t.Errorf("kind %d: %s, %v; want %s, %v", kind, shown(got), err, shown(want), wantErr)
			}
		}
	}
	var zero M
	if whole(&zero) != whole(New()) {
		t.Errorf("a zero one is %s", whole(&zero))
	}
	var asked, first M
	if !asked.Same(&first) || asked.NextID() != 1 || len(asked.Ids()) != 0 {
		t.Error("a zero one is not the same as another")
	}
}

// P6.3: what was handed in may change, and so may what was answered, and the model stays as it is.
func TestMemory(t *testing.T) {
	m := does(t, New(), create("/a"))
	room := []byte("data and more")
	data := room[:4]
	does(t, m, api.Op{Kind: api.OpWrite, Path: "/a", Data: data})
	if string(room) != "data and more" {
		t.Errorf("what was handed in is %q", room)
	}
	does(t, m, snapshot(), snapshot())
	before := whole(m)
	copy(room, "else")
	for range 2 {
		x, _ := m.Snap(1)
		for _, all := range []api.Tree{m.Live(), x} {
			copy(all.Nodes[1].Data, "else")
			all.Nodes[0].Names[0], all.Nodes[0].Inos[0] = "other", 9
			all.Nodes[1].Ino = 7
		}
		for _, id := range []int{0, 1} {
			r, _ := m.Do(at(id, read("/a")))
			copy(r.Data, "else")
			r, _ = m.Do(at(id, readdir("/")))
			r.Names[0] = "other"
		}
		r, _ := m.Do(snapshots())
		r.Snaps[0] = 9
		m.Ids()[1] = 9
	}
	if whole(m) != before {
		t.Errorf("changed from outside: %s; want %s", whole(m), before)
	}
}
