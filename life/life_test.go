package life

import (
	"fmt"
	"math"
	"slices"
	"testing"

	"dolmen/api"
)

const most = api.MaxEpoch

// open is a span from born on, without an end.
func open(born int) Span { return Span{Born: born} }

// span is one with an end.
func span(born, died int) Span { return Span{Born: born, Died: died} }

// good holds an error against none.
func good(t *testing.T, what string, err error) {
	t.Helper()
	if err != nil {
		t.Errorf("%s: %v; want no error", what, err)
	}
}

// bare holds an error against the bare ErrArg.
func bare(t *testing.T, what string, err error) {
	t.Helper()
	if err != error(api.ErrArg) {
		t.Errorf("%s: %#v; want ErrArg, bare", what, err)
	}
}

// birth begins one, which must be OK.
func birth(t *testing.T, b *Book, id, epoch int) {
	t.Helper()
	good(t, fmt.Sprintf("P10.1: Birth(%d, %d)", id, epoch), b.Birth(id, epoch))
}

// death ends one, which must be OK.
func death(t *testing.T, b *Book, id, epoch int) {
	t.Helper()
	good(t, fmt.Sprintf("P10.1: Death(%d, %d)", id, epoch), b.Death(id, epoch))
}

// drop takes one out, which must be OK.
func drop(t *testing.T, b *Book, id int) {
	t.Helper()
	good(t, fmt.Sprintf("P10.1: Drop(%d)", id), b.Drop(id))
}

// of is a book of these spans, the first one's id 1, the next one's 2.
func of(t *testing.T, l ...Span) *Book {
	t.Helper()
	b := New()
	for i, s := range l {
		birth(t, b, i+1, s.Born)
		if s.Died != 0 {
			death(t, b, i+1, s.Died)
		}
	}
	return b
}

// lists holds ids against those wanted.
func lists(t *testing.T, what string, got []int, want ...int) {
	t.Helper()
	if !slices.Equal(got, want) {
		t.Errorf("%s: %v; want %v", what, got, want)
	}
}

// at holds what At answers against the ids wanted.
func at(t *testing.T, b *Book, epoch int, want ...int) {
	t.Helper()
	lists(t, fmt.Sprintf("P10.2: At(%d)", epoch), b.At(epoch), want...)
}

// parted holds what Needed and Dead answer against the ids wanted.
func parted(t *testing.T, b *Book, epochs, needed, dead []int) {
	t.Helper()
	lists(t, fmt.Sprintf("P10.2: Needed(%v)", epochs), b.Needed(epochs), needed...)
	lists(t, fmt.Sprintf("P10.2: Dead(%v)", epochs), b.Dead(epochs), dead...)
}

// spans holds what Span answers of an id against the span wanted.
func spans(t *testing.T, b *Book, id int, want Span) {
	t.Helper()
	if s, ok := b.Span(id); !ok || s != want {
		t.Errorf("P10.2: Span(%d): %v, %v; want %v", id, s, ok, want)
	}
}

// missing holds what is told of ids against what is told of those that are not there.
func missing(t *testing.T, b *Book, ids ...int) {
	t.Helper()
	for _, id := range ids {
		if s, ok := b.Span(id); ok || s != (Span{}) {
			t.Errorf("P10.2: Span(%d): %v, %v; want none", id, s, ok)
		}
		bare(t, fmt.Sprintf("P10.1: Death(%d) of what is not there", id), b.Death(id, most))
		bare(t, fmt.Sprintf("P10.1: Drop(%d) of what is not there", id), b.Drop(id))
	}
}

// has holds how many are there against the number wanted.
func has(t *testing.T, b *Book, want int) {
	t.Helper()
	if n := b.Len(); n != want {
		t.Errorf("P10.2: Len: %d; want %d", n, want)
	}
}

func TestExample(t *testing.T) {
	b := New()
	birth(t, b, 7, 3)
	death(t, b, 7, 5)
	at(t, b, 2)
	at(t, b, 3, 7)
	at(t, b, 4, 7)
	at(t, b, 5)
	spans(t, b, 7, span(3, 5))
}

func TestBirth(t *testing.T) {
	b := New()
	for _, epoch := range []int{0, -1, most + 1, math.MaxInt, math.MinInt} {
		bare(t, fmt.Sprintf("P10.1: Birth at %d", epoch), b.Birth(1, epoch))
	}
	has(t, b, 0)
	missing(t, b, 1)
	birth(t, b, 1, most)
	birth(t, b, 2, 1)
	birth(t, b, 0, 5) // any number is an id
	birth(t, b, -3, 5)
	birth(t, b, math.MaxInt, 5)
	birth(t, b, math.MinInt, 5)
	has(t, b, 6)
	spans(t, b, 1, open(most))
	spans(t, b, 2, open(1))
	spans(t, b, math.MinInt, open(5))
	at(t, b, 5, math.MinInt, -3, 0, 2, math.MaxInt)
	missing(t, b, 3, -1, math.MaxInt-1)
}

// TestBornTwice holds a second birth against ErrArg, whatever the first one has come to, and that nothing has changed.
func TestBornTwice(t *testing.T) {
	b := of(t, open(3), span(3, 5), span(4, 4))
	for id := 1; id <= 3; id++ {
		for _, epoch := range []int{1, 3, 4, 5, 9, most} {
			bare(t, fmt.Sprintf("P10.1: Birth(%d, %d) again", id, epoch), b.Birth(id, epoch))
		}
	}
	has(t, b, 3)
	spans(t, b, 1, open(3))
	spans(t, b, 2, span(3, 5))
	spans(t, b, 3, span(4, 4))
}

func TestDeath(t *testing.T) {
	b := of(t, open(3), open(3), open(3), open(most), open(1))
	for _, epoch := range []int{2, 1, 0, -1, math.MinInt, most + 1, math.MaxInt} {
		bare(t, fmt.Sprintf("P10.1: Death at %d", epoch), b.Death(1, epoch))
	}
	spans(t, b, 1, open(3))
	death(t, b, 1, 3)
	death(t, b, 2, 4)
	death(t, b, 3, most)
	death(t, b, 4, most)
	bare(t, "P10.1: Death at 0 of what was born at 1", b.Death(5, 0))
	death(t, b, 5, 1)
	missing(t, b, 6, 0)
	for id, want := range []Span{span(3, 3), span(3, 4), span(3, most), span(most, most), span(1, 1)} {
		spans(t, b, id+1, want)
		for _, epoch := range []int{want.Born, want.Died, want.Died + 1, most} {
			bare(t, fmt.Sprintf("P10.1: Death(%d, %d) again", id+1, epoch), b.Death(id+1, epoch))
		}
		spans(t, b, id+1, want)
	}
	at(t, b, 1)
	at(t, b, 3, 2, 3)
	at(t, b, 4, 3)
	at(t, b, most-1, 3)
	at(t, b, most)
	has(t, b, 5)
}

func TestDrop(t *testing.T) {
	b := of(t, span(3, 5), open(2), open(4))
	drop(t, b, 1)
	missing(t, b, 1)
	has(t, b, 2)
	at(t, b, 4, 2, 3)
	bare(t, "P10.1: a birth that is none", b.Birth(1, 0))
	birth(t, b, 1, 9)
	spans(t, b, 1, open(9)) // nothing of what it was is left
	at(t, b, 4, 2, 3)
	at(t, b, 9, 1, 2, 3)
	drop(t, b, 2) // what has no end may go too
	drop(t, b, 3)
	drop(t, b, 1)
	missing(t, b, 1, 2, 3)
	has(t, b, 0)
	at(t, b, 9)
	parted(t, b, []int{9}, nil, nil)
}

func TestHolds(t *testing.T) {
	for _, c := range []struct {
		s     Span
		epoch int
		want  bool
	}{
		{span(3, 5), 2, false},
		{span(3, 5), 3, true},
		{span(3, 5), 4, true},
		{span(3, 5), 5, false},
		{span(3, 5), most, false},
		{span(4, 4), 3, false},
		{span(4, 4), 4, false},
		{span(4, 4), 5, false},
		{span(1, most), most - 1, true},
		{span(1, most), most, false},
		{open(3), 2, false},
		{open(3), 3, true},
		{open(3), most, true},
		{open(3), math.MaxInt, true},
		{open(3), math.MinInt, false},
		{open(most), most - 1, false},
		{open(most), most, true},
		// no book has such spans, but they may be asked
		{Span{}, 0, true},
		{Span{}, -1, false},
		{span(5, 3), 2, false},
		{span(5, 3), 3, false},
		{span(5, 3), 4, false},
		{span(5, 3), 5, false},
		{span(-5, -3), -4, true},
		{span(-5, -3), -3, false},
		{span(math.MinInt, math.MaxInt), 0, true},
		{span(math.MinInt, math.MaxInt), math.MaxInt, false},
	} {
		if got := Holds(c.s, c.epoch); got != c.want {
			t.Errorf("P10.2: Holds(%v, %d): %v", c.s, c.epoch, got)
		}
	}
}

func TestAt(t *testing.T) {
	b := of(t, span(3, 5), open(4), span(1, most), span(4, 4))
	at(t, b, math.MinInt)
	at(t, b, -1)
	at(t, b, 0)
	at(t, b, 1, 3)
	at(t, b, 3, 1, 3)
	at(t, b, 4, 1, 2, 3)
	at(t, b, 5, 2, 3)
	at(t, b, most-1, 2, 3)
	at(t, b, most, 2)
	at(t, b, math.MaxInt, 2)
}

func TestNeededAndDead(t *testing.T) {
	b := of(t, span(3, 5), open(4), span(5, 9), span(4, 4), span(1, most))
	parted(t, b, nil, []int{2}, []int{1, 3, 4, 5})
	parted(t, b, []int{}, []int{2}, []int{1, 3, 4, 5})
	parted(t, b, []int{2}, []int{2, 5}, []int{1, 3, 4})
	parted(t, b, []int{3}, []int{1, 2, 5}, []int{3, 4})
	parted(t, b, []int{4}, []int{1, 2, 5}, []int{3, 4})
	parted(t, b, []int{5}, []int{2, 3, 5}, []int{1, 4})
	parted(t, b, []int{8}, []int{2, 3, 5}, []int{1, 4})
	parted(t, b, []int{9}, []int{2, 5}, []int{1, 3, 4})
	parted(t, b, []int{2, 9}, []int{2, 5}, []int{1, 3, 4}) // on both sides of a span, and none in it
	parted(t, b, []int{8, 4}, []int{1, 2, 3, 5}, []int{4})
	parted(t, b, []int{most}, []int{2}, []int{1, 3, 4, 5})
	parted(t, b, []int{0, -1, most + 1, math.MinInt, math.MaxInt}, []int{2}, []int{1, 3, 4, 5})
	parted(t, b, []int{5, 4, 4, 5, math.MaxInt, 4}, []int{1, 2, 3, 5}, []int{4})
	parted(t, New(), []int{1, 2}, nil, nil)
}

// TestRising holds each list against rising ids, in whatever order they were born.
func TestRising(t *testing.T) {
	ids := []int{5, -2, math.MaxInt, 0, 9, math.MinInt, 4, -7}
	rising := slices.Sorted(slices.Values(ids))
	b := New()
	for i, id := range ids {
		birth(t, b, id, 10-i)
	}
	at(t, b, 10, rising...)
	parted(t, b, nil, rising, nil)
	for _, id := range ids {
		death(t, b, id, 11)
	}
	parted(t, b, nil, nil, rising)
	parted(t, b, []int{10}, rising, nil)
}

func TestNil(t *testing.T) {
	var none *Book
	missing(t, none, -1, 0, 1)
	bare(t, "P10.3: Birth of nil", none.Birth(1, 1))
	bare(t, "P10.3: Birth of nil at no epoch", none.Birth(1, 0))
	missing(t, none, 1)
	at(t, none, 1)
	parted(t, none, nil, nil, nil)
	parted(t, none, []int{1, 2}, nil, nil)
	has(t, none, 0)
}

func TestZero(t *testing.T) {
	var zero Book
	for _, b := range []*Book{&zero, New()} {
		missing(t, b, -1, 0, 1)
		at(t, b, 1)
		parted(t, b, []int{1}, nil, nil)
		has(t, b, 0)
		birth(t, b, 1, 2)
		death(t, b, 1, 3)
		at(t, b, 2, 1)
		parted(t, b, []int{2}, []int{1}, nil)
		has(t, b, 1)
	}
	has(t, New(), 0) // books have nothing in common
}

// TestHandedIn holds the epochs that are handed in, their spare room too, against what they were, and that they are not kept.
func TestHandedIn(t *testing.T) {
	b := of(t, span(3, 5), span(5, 9))
	room := []int{8, 3, 8, 1, 7, 6}
	epochs := room[:3]
	parted(t, b, epochs, []int{1, 2}, nil)
	lists(t, "P10.4: epochs handed in", room, 8, 3, 8, 1, 7, 6)
	clear(room)
	parted(t, b, nil, nil, []int{1, 2})
}

func TestAnswersAreNew(t *testing.T) {
	b := of(t, open(1), open(1), span(1, 2), span(1, 2))
	ask := func() [][]int { return [][]int{b.At(1), b.At(9), b.Needed(nil), b.Dead(nil)} }
	for _, l := range ask() {
		clear(l[:cap(l)])
	}
	at(t, b, 1, 1, 2, 3, 4)
	told := ask()
	drop(t, b, 1)
	death(t, b, 2, 5)
	birth(t, b, 0, 1)
	for i, want := range [][]int{{1, 2, 3, 4}, {1, 2}, {1, 2}, {3, 4}} {
		lists(t, "P10.4: what was told", told[i], want...)
	}
}
