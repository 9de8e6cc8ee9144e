package table

import (
	"fmt"
	"math"
	"slices"
	"strings"
	"testing"

	"dolmen/api"
	"dolmen/life"
)

const most = api.MaxEpoch

// entry is one with an end; of died 0 without one.
func entry(name string, ino, born, died int) Entry {
	return Entry{Name: name, Ino: ino, Span: life.Span{Born: born, Died: died}}
}

// tells holds an error against the bare number wanted; 0: none.
func tells(t *testing.T, what string, err error, want api.Errno) {
	t.Helper()
	switch {
	case want == 0 && err != nil:
		t.Errorf("%s: %v; want no error", what, err)
	case want != 0 && err != error(want):
		t.Errorf("%s: %#v; want %v, bare", what, err, want)
	}
}

// add holds what Add tells against the number wanted.
func add(t *testing.T, x *Table, name string, ino, epoch int, want api.Errno) {
	t.Helper()
	tells(t, fmt.Sprintf("P11.1: Add(%q, %d, %d)", name, ino, epoch), x.Add(name, ino, epoch), want)
}

// remove holds what Remove tells against the number wanted.
func remove(t *testing.T, x *Table, name string, epoch int, want api.Errno) {
	t.Helper()
	tells(t, fmt.Sprintf("P11.1: Remove(%q, %d)", name, epoch), x.Remove(name, epoch), want)
}

// of is a table that such entries come to; they stand by rising epochs.
func of(t *testing.T, l ...Entry) *Table {
	t.Helper()
	x := New()
	for _, e := range l {
		add(t, x, e.Name, e.Ino, e.Span.Born, 0)
		if e.Span.Died != 0 {
			remove(t, x, e.Name, e.Span.Died, 0)
		}
	}
	return x
}

// finds holds what Find answers of a name against the inode wanted; 0: none.
func finds(t *testing.T, x *Table, name string, epoch, want int) {
	t.Helper()
	if ino, ok := x.Find(name, epoch); ino != want || ok != (want != 0) {
		t.Errorf("P11.2: Find(%q, %d): %d, %v; want %d", name, epoch, ino, ok, want)
	}
}

// at holds what Names answers against the names wanted.
func at(t *testing.T, x *Table, epoch int, want ...string) {
	t.Helper()
	if got := x.Names(epoch); !slices.Equal(got, want) {
		t.Errorf("P11.2: Names(%d): %q; want %q", epoch, got, want)
	}
}

// all holds what All answers against the entries wanted.
func all(t *testing.T, x *Table, want ...Entry) {
	t.Helper()
	if got := x.All(); !slices.Equal(got, want) {
		t.Errorf("P11.2: All: %v; want %v", got, want)
	}
}

// cleans holds what Clean answers against how many are to go.
func cleans(t *testing.T, x *Table, epochs []int, want int) {
	t.Helper()
	if n := x.Clean(epochs); n != want {
		t.Errorf("P11.2: Clean(%v): %d; want %d", epochs, n, want)
	}
}

// last holds what Last answers against the epoch wanted.
func last(t *testing.T, x *Table, want int) {
	t.Helper()
	if got := x.Last(); got != want {
		t.Errorf("P11.1: Last: %d; want %d", got, want)
	}
}

func TestExample(t *testing.T) {
	x := New()
	add(t, x, "a", 5, 1, 0)
	remove(t, x, "a", 3, 0)
	add(t, x, "a", 6, 3, 0)
	finds(t, x, "a", 2, 5)
	finds(t, x, "a", 3, 6)
}

func TestAdd(t *testing.T) {
	x := of(t, entry("a", 5, 4, 0))
	refused := func(name string, ino, epoch int, want api.Errno) {
		t.Helper()
		add(t, x, name, ino, epoch, want)
		all(t, x, entry("a", 5, 4, 0))
		last(t, x, 4)
	}
	refused("", 5, 4, api.ErrArg)
	for _, epoch := range []int{3, 1, 0, -1, math.MinInt, most + 1, math.MaxInt} {
		refused("b", 5, epoch, api.ErrArg)
		refused("a", 5, epoch, api.ErrArg) // ahead of ErrThere
	}
	for _, ino := range []int{0, -1, math.MinInt} {
		refused("b", ino, 4, api.ErrArg)
		refused("a", ino, 4, api.ErrArg)
	}
	for _, epoch := range []int{4, 5, most} {
		refused("a", 5, epoch, api.ErrThere)
		refused("a", 6, epoch, api.ErrThere)
	}
	add(t, x, "b", 1, 4, 0)
	add(t, x, "c", 5, 5, 0) // an inode may have more names
	add(t, x, "d", math.MaxInt, most, 0)
	add(t, x, "e", 2, most, 0)
	add(t, x, "f", 2, most-1, api.ErrArg)
	all(t, x, entry("a", 5, 4, 0), entry("b", 1, 4, 0), entry("c", 5, 5, 0), entry("d", math.MaxInt, most, 0), entry("e", 2, most, 0))
}

// TestFirst holds the first epoch that a table is given against its edges.
func TestFirst(t *testing.T) {
	for _, epoch := range []int{0, -1, math.MinInt, most + 1, math.MaxInt} {
		x := New()
		add(t, x, "a", 1, epoch, api.ErrArg)
		remove(t, x, "a", epoch, api.ErrArg)
		all(t, x)
		last(t, x, 0)
	}
	for _, epoch := range []int{1, 2, most - 1, most} {
		x := New()
		remove(t, x, "a", epoch, api.ErrNone)
		last(t, x, 0)
		add(t, x, "a", 1, epoch, 0)
		last(t, x, epoch)
		all(t, x, entry("a", 1, epoch, 0))
	}
}

// TestAnyName holds names against each other that are none of a path: a table takes all but the one without a byte.
func TestAnyName(t *testing.T) {
	l := []string{"\x00", "\x00\x00", " ", ".", "..", "/", "/a/b", "A", "a", "a\x00", "aa", "\x80", "\xc3", "é", "\xff", strings.Repeat("\xff", 1000)}
	x := New()
	for i, name := range slices.Backward(l) {
		add(t, x, name, i+1, 1, 0)
	}
	at(t, x, 1, l...)
	for i, name := range l {
		finds(t, x, name, 1, i+1)
		remove(t, x, name, 2, 0)
	}
	at(t, x, 2)
	remove(t, x, "", 2, api.ErrArg)
	finds(t, x, "", 1, 0)
}

func TestRemove(t *testing.T) {
	x := of(t, entry("a", 5, 4, 0))
	refused := func(name string, epoch int, want api.Errno) {
		t.Helper()
		remove(t, x, name, epoch, want)
		all(t, x, entry("a", 5, 4, 0))
		last(t, x, 4)
	}
	refused("", 4, api.ErrArg)
	for _, epoch := range []int{3, 1, 0, -1, math.MinInt, most + 1, math.MaxInt} {
		refused("a", epoch, api.ErrArg)
		refused("b", epoch, api.ErrArg) // ahead of ErrNone
	}
	for _, epoch := range []int{4, 5, most} {
		refused("b", epoch, api.ErrNone)
		refused("aa", epoch, api.ErrNone)
	}
	remove(t, x, "a", 6, 0)
	all(t, x, entry("a", 5, 4, 6))
	last(t, x, 6)
	for _, epoch := range []int{6, 7, most} { // it has an end already
		remove(t, x, "a", epoch, api.ErrNone)
	}
	all(t, x, entry("a", 5, 4, 6))
	last(t, x, 6)
	add(t, x, "a", 5, 6, 0) // from where it ended on
	remove(t, x, "a", most, 0)
	all(t, x, entry("a", 5, 4, 6), entry("a", 5, 6, most))
	last(t, x, most)
}

// TestLast holds Last against each call that was OK: what was refused or only asked does not count.
func TestLast(t *testing.T) {
	x := New()
	add(t, x, "a", 1, 2, 0)
	last(t, x, 2)
	add(t, x, "a", 1, 7, api.ErrThere)
	remove(t, x, "b", 7, api.ErrNone)
	add(t, x, "", 1, 7, api.ErrArg)
	last(t, x, 2)
	finds(t, x, "a", 7, 1)
	at(t, x, 7, "a")
	cleans(t, x, []int{7}, 0)
	last(t, x, 2)
	remove(t, x, "a", 3, 0)
	last(t, x, 3)
	add(t, x, "b", 1, 2, api.ErrArg) // another name's epochs do not fall either
	remove(t, x, "a", 2, api.ErrArg)
	cleans(t, x, nil, 1)
	last(t, x, 3)
	add(t, x, "a", 1, 2, api.ErrArg) // although nothing is there
	add(t, x, "a", 1, 3, 0)
}

func TestFind(t *testing.T) {
	x := of(t, entry("a", 5, 2, 4), entry("a", 6, 4, 5), entry("b", 5, 5, 0), entry("a", 7, 7, 7), entry("a", 8, 7, 7), entry("a", 9, 9, 0))
	for epoch, want := range []int{0, 0, 5, 5, 6, 0, 0, 0, 0, 9, 9} {
		finds(t, x, "a", epoch, want)
	}
	for epoch, want := range []int{0, 0, 0, 0, 0, 5, 5} {
		finds(t, x, "b", epoch, want)
	}
	for _, epoch := range []int{-1, -2, math.MinInt} {
		finds(t, x, "a", epoch, 0)
	}
	for _, epoch := range []int{most - 1, most, most + 1, math.MaxInt} { // what has no end
		finds(t, x, "a", epoch, 9)
	}
	for _, name := range []string{"", "c", "aa", "A", "a\x00"} {
		finds(t, x, name, 9, 0)
	}
	x = of(t, entry("a", 1, most, most), entry("a", 2, most, 0), entry("b", 3, most, most))
	finds(t, x, "a", most-1, 0)
	finds(t, x, "a", most, 2)
	finds(t, x, "b", most, 0)
}

// TestReplaced ends and adds one name again and again at one epoch, at which it leads to the one added last alone.
func TestReplaced(t *testing.T) {
	x := of(t, entry("a", 1, 2, 4))
	for ino := 2; ino <= 9; ino++ {
		add(t, x, "a", ino, 4, 0)
		finds(t, x, "a", 4, ino)
		finds(t, x, "a", 3, 1)
		at(t, x, 4, "a")
		remove(t, x, "a", 4, 0)
		finds(t, x, "a", 4, 0)
		at(t, x, 4)
	}
	finds(t, x, "a", 3, 1)
	add(t, x, "a", 1, 4, 0)
	finds(t, x, "a", 4, 1)
}

func TestNames(t *testing.T) {
	x := of(t, entry("b", 1, 1, 2), entry("é", 1, 2, 4), entry("aa", 2, 4, 0), entry("a", 3, 4, 5), entry("B", 4, 5, 0), entry("b", 5, 5, 0), entry("\xff", 6, 5, 5))
	at(t, x, math.MinInt)
	at(t, x, 0)
	at(t, x, 1, "b")
	at(t, x, 2, "é")
	at(t, x, 3, "é")
	at(t, x, 4, "a", "aa")
	at(t, x, 5, "B", "aa", "b")
	at(t, x, most, "B", "aa", "b")
	at(t, x, math.MaxInt, "B", "aa", "b")
}

// TestAll holds the order: by name, then from when on, then as they came.
func TestAll(t *testing.T) {
	x := of(t,
		entry("b", 9, 1, 1), entry("b", 8, 1, 1), entry("a", 7, 1, 2), entry("b", 7, 2, 2), entry("b", 9, 2, 2), entry("b", 8, 2, 3),
		entry("a", 6, 3, 0), entry("B", 5, 3, 3), entry("B", 4, 3, 3), entry("b", 1, 3, 0))
	all(t, x,
		entry("B", 5, 3, 3), entry("B", 4, 3, 3),
		entry("a", 7, 1, 2), entry("a", 6, 3, 0),
		entry("b", 9, 1, 1), entry("b", 8, 1, 1), entry("b", 7, 2, 2), entry("b", 9, 2, 2), entry("b", 8, 2, 3), entry("b", 1, 3, 0))
	cleans(t, x, []int{2}, 7)
	all(t, x, entry("a", 6, 3, 0), entry("b", 8, 2, 3), entry("b", 1, 3, 0))
}

func TestClean(t *testing.T) {
	l := []Entry{entry("a", 1, 2, 4), entry("a", 2, 4, 4), entry("a", 3, 4, 9), entry("b", 4, 9, 10), entry("c", 5, 10, 0), entry("a", 6, 11, 0)}
	for _, c := range []struct {
		epochs []int
		left   []int // places of l that stay
	}{
		{nil, []int{4, 5}},
		{[]int{}, []int{4, 5}},
		{[]int{1}, []int{4, 5}},
		{[]int{2}, []int{0, 4, 5}},
		{[]int{3}, []int{0, 4, 5}},
		{[]int{4}, []int{2, 4, 5}},
		{[]int{8}, []int{2, 4, 5}},
		{[]int{9}, []int{3, 4, 5}},
		{[]int{10}, []int{4, 5}},
		{[]int{most}, []int{4, 5}},
		{[]int{3, 9}, []int{0, 3, 4, 5}}, // on both sides of one, and none in it
		{[]int{9, 5, 1, 3, 5, 9, math.MaxInt}, []int{0, 2, 3, 4, 5}},
		{[]int{0, -1, math.MinInt, most + 1, math.MaxInt}, []int{4, 5}},
	} {
		x := of(t, l...)
		var want []Entry
		for _, i := range c.left {
			want = append(want, l[i])
		}
		slices.SortStableFunc(want, func(a, b Entry) int { return strings.Compare(a.Name, b.Name) })
		cleans(t, x, c.epochs, len(l)-len(want))
		all(t, x, want...)
		last(t, x, 11)
		cleans(t, x, c.epochs, 0) // there is nothing more to clean
		all(t, x, want...)
		finds(t, x, "a", 11, 6)
		finds(t, x, "c", 11, 5)
	}
	cleans(t, New(), []int{1}, 0)
}

// TestCleaned goes on with a table of which some, and all, has gone.
func TestCleaned(t *testing.T) {
	x := of(t, entry("a", 1, 1, 2), entry("b", 2, 2, 5), entry("a", 3, 5, 0))
	cleans(t, x, []int{4}, 1)
	all(t, x, entry("a", 3, 5, 0), entry("b", 2, 2, 5))
	add(t, x, "a", 4, 5, api.ErrThere)
	remove(t, x, "a", 6, 0)
	remove(t, x, "b", 6, api.ErrNone)
	add(t, x, "b", 4, 6, 0)
	all(t, x, entry("a", 3, 5, 6), entry("b", 2, 2, 5), entry("b", 4, 6, 0))
	remove(t, x, "b", 6, 0)
	cleans(t, x, nil, 3)
	all(t, x)
	at(t, x, 5)
	finds(t, x, "a", 5, 0)
	last(t, x, 6)
	remove(t, x, "a", 6, api.ErrNone)
	add(t, x, "a", 5, 5, api.ErrArg)
	add(t, x, "a", 5, 6, 0)
	all(t, x, entry("a", 5, 6, 0))
}

func TestNil(t *testing.T) {
	var none *Table
	add(t, none, "a", 1, 1, api.ErrArg)
	add(t, none, "", 0, 0, api.ErrArg)
	remove(t, none, "a", 1, api.ErrArg)
	remove(t, none, "", 0, api.ErrArg)
	finds(t, none, "a", 1, 0)
	at(t, none, 1)
	all(t, none)
	cleans(t, none, []int{1}, 0)
	cleans(t, none, nil, 0)
	last(t, none, 0)
}

func TestZero(t *testing.T) {
	var zero Table
	for _, x := range []*Table{&zero, New()} {
		remove(t, x, "a", 1, api.ErrNone)
		finds(t, x, "a", 1, 0)
		at(t, x, 1)
		all(t, x)
		cleans(t, x, []int{1}, 0)
		last(t, x, 0)
		add(t, x, "a", 1, 1, 0)
		remove(t, x, "a", 2, 0)
		add(t, x, "a", 2, 2, 0)
		at(t, x, 1, "a")
		all(t, x, entry("a", 1, 1, 2), entry("a", 2, 2, 0))
		cleans(t, x, nil, 1)
		last(t, x, 2)
	}
	all(t, New()) // tables have nothing in common
	last(t, New(), 0)
}

// TestHandedIn holds the epochs that are handed in, their spare room too, against what they were, and that they are not kept.
func TestHandedIn(t *testing.T) {
	x := of(t, entry("a", 1, 3, 5), entry("b", 2, 5, 9))
	room := []int{8, 3, 8, 1, 7, 6}
	cleans(t, x, room[:3], 0)
	if !slices.Equal(room, []int{8, 3, 8, 1, 7, 6}) {
		t.Errorf("P11.4: epochs handed in: %v", room)
	}
	clear(room)
	all(t, x, entry("a", 1, 3, 5), entry("b", 2, 5, 9))
	cleans(t, x, nil, 2)
}

func TestAnswersAreNew(t *testing.T) {
	x := of(t, entry("a", 1, 1, 2), entry("b", 2, 2, 0), entry("a", 3, 2, 0))
	entries, found := x.All(), x.Names(2)
	clear(entries[:cap(entries)])
	clear(found[:cap(found)])
	want := []Entry{entry("a", 1, 1, 2), entry("a", 3, 2, 0), entry("b", 2, 2, 0)}
	all(t, x, want...)
	at(t, x, 2, "a", "b")
	entries, found = x.All(), x.Names(2)
	remove(t, x, "a", 3, 0)
	remove(t, x, "b", 3, 0)
	add(t, x, "a", 9, 4, 0)
	cleans(t, x, nil, 3)
	all(t, x, entry("a", 9, 4, 0))
	if !slices.Equal(entries, want) || !slices.Equal(found, []string{"a", "b"}) {
		t.Errorf("P11.4: what was told is %v, %q now", entries, found)
	}
}
