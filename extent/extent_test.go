package extent

import (
	"fmt"
	"math"
	"slices"
	"testing"

	"dolmen/api"
)

// piece is one, by its four numbers.
func piece(off, n, page, at int) Piece { return Piece{Off: off, Len: n, Page: page, At: at} }

// of is a map into which pieces were put.
func of(t *testing.T, l ...Piece) *Map {
	t.Helper()
	m := New()
	for _, p := range l {
		puts(t, m, p)
	}
	return m
}

func puts(t *testing.T, m *Map, p Piece) {
	t.Helper()
	if err := m.Put(p); err != nil {
		t.Errorf("P9.1: Put of %v: %v", p, err)
	}
}

func cuts(t *testing.T, m *Map, from, to int) {
	t.Helper()
	if err := m.Cut(from, to); err != nil {
		t.Errorf("P9.1: Cut from %d to %d: %v", from, to, err)
	}
}

// bare holds an error against the bare ErrRange.
func bare(t *testing.T, what string, err error) {
	t.Helper()
	if err != error(api.ErrRange) {
		t.Errorf("%s: %#v; want ErrRange, bare", what, err)
	}
}

// has holds what Pieces answers against the pieces wanted, and End against where they end.
func has(t *testing.T, what string, m *Map, want ...Piece) {
	t.Helper()
	if l := m.Pieces(); !slices.Equal(l, want) {
		t.Errorf("%s: Pieces:\n got %v\nwant %v", what, l, want)
	}
	end := 0
	for _, p := range want {
		end = p.Off + p.Len
	}
	if got := m.End(); got != end {
		t.Errorf("%s: End: %d; want %d", what, got, end)
	}
}

// finds holds what Find answers of each of these places against the piece wanted.
func finds(t *testing.T, m *Map, want Piece, places ...int) {
	t.Helper()
	for _, off := range places {
		if p, ok := m.Find(off); !ok || p != want {
			t.Errorf("P9.2: Find(%d): %v, %v; want %v", off, p, ok, want)
		}
	}
}

// misses holds what Find answers of each of these places against none.
func misses(t *testing.T, m *Map, places ...int) {
	t.Helper()
	for _, off := range places {
		if p, ok := m.Find(off); ok || p != (Piece{}) {
			t.Errorf("P9.2: Find(%d): %v, %v; want none", off, p, ok)
		}
	}
}

// ranges holds what Range answers against the pieces wanted.
func ranges(t *testing.T, m *Map, from, to int, want ...Piece) {
	t.Helper()
	if l := m.Range(from, to); !slices.Equal(l, want) {
		t.Errorf("P9.2: Range(%d, %d):\n got %v\nwant %v", from, to, l, want)
	}
}

func pages(t *testing.T, m *Map, want ...int) {
	t.Helper()
	if l := m.Pages(); !slices.Equal(l, want) {
		t.Errorf("P9.2: Pages: %v; want %v", l, want)
	}
}

func TestExample(t *testing.T) {
	m := of(t, piece(0, 10, 1, 0), piece(3, 2, 2, 0))
	has(t, "the example", m, piece(0, 3, 1, 0), piece(3, 2, 2, 0), piece(5, 5, 1, 5))
}

// A piece lies to another one in so many ways: each with places of page 1 from 10 to 19, At from 100 on.
func TestPutOverAnother(t *testing.T) {
	old := piece(10, 10, 1, 100)
	for _, c := range []struct {
		what string
		put  Piece
		want []Piece
	}{
		{"ahead of it", piece(2, 3, 2, 0), []Piece{piece(2, 3, 2, 0), old}},
		{"up to it", piece(5, 5, 2, 0), []Piece{piece(5, 5, 2, 0), old}},
		{"over its first place", piece(5, 6, 2, 0), []Piece{piece(5, 6, 2, 0), piece(11, 9, 1, 101)}},
		{"over all but its last place", piece(0, 19, 2, 0), []Piece{piece(0, 19, 2, 0), piece(19, 1, 1, 109)}},
		{"from its beginning", piece(10, 4, 2, 0), []Piece{piece(10, 4, 2, 0), piece(14, 6, 1, 104)}},
		{"in its midst", piece(13, 2, 2, 0), []Piece{piece(10, 3, 1, 100), piece(13, 2, 2, 0), piece(15, 5, 1, 105)}},
		{"all but its ends", piece(11, 8, 2, 0), []Piece{piece(10, 1, 1, 100), piece(11, 8, 2, 0), piece(19, 1, 1, 109)}},
		{"to its end", piece(16, 4, 2, 0), []Piece{piece(10, 6, 1, 100), piece(16, 4, 2, 0)}},
		{"over its last place", piece(19, 5, 2, 0), []Piece{piece(10, 9, 1, 100), piece(19, 5, 2, 0)}},
		{"from its end on", piece(20, 5, 2, 0), []Piece{old, piece(20, 5, 2, 0)}},
		{"behind it", piece(21, 5, 2, 0), []Piece{old, piece(21, 5, 2, 0)}},
		{"just over it", piece(10, 10, 2, 0), []Piece{piece(10, 10, 2, 0)}},
		{"over all of it", piece(9, 12, 2, 0), []Piece{piece(9, 12, 2, 0)}},
		{"the same", old, []Piece{old}},
		{"its page, elsewhere there", piece(12, 2, 1, 103), []Piece{piece(10, 2, 1, 100), piece(12, 2, 1, 103), piece(14, 6, 1, 104)}},
	} {
		has(t, "P9.1: Put "+c.what, of(t, old, c.put), c.want...)
	}
}

func TestPutOverMany(t *testing.T) {
	m := of(t, piece(0, 4, 1, 0), piece(6, 2, 2, 0), piece(8, 2, 3, 0), piece(12, 4, 4, 0), piece(20, 1, 5, 0))
	puts(t, m, piece(3, 10, 6, 7))
	has(t, "P9.1: over many", m, piece(0, 3, 1, 0), piece(3, 10, 6, 7), piece(13, 3, 4, 1), piece(20, 1, 5, 0))
	pages(t, m, 1, 4, 5, 6)
}

func TestCut(t *testing.T) {
	old := piece(10, 10, 1, 100)
	for _, c := range []struct {
		from, to int
		want     []Piece
	}{
		{0, 10, []Piece{old}},
		{0, 11, []Piece{piece(11, 9, 1, 101)}},
		{10, 11, []Piece{piece(11, 9, 1, 101)}},
		{14, 15, []Piece{piece(10, 4, 1, 100), piece(15, 5, 1, 105)}},
		{11, 19, []Piece{piece(10, 1, 1, 100), piece(19, 1, 1, 109)}},
		{19, 20, []Piece{piece(10, 9, 1, 100)}},
		{19, 1 << 32, []Piece{piece(10, 9, 1, 100)}},
		{20, 1 << 32, []Piece{old}},
		{10, 20, nil},
		{0, 1 << 32, nil},
		{0, 0, []Piece{old}},
		{10, 10, []Piece{old}},
		{14, 14, []Piece{old}},
		{20, 20, []Piece{old}},
		{1 << 32, 1 << 32, []Piece{old}},
	} {
		m := of(t, old)
		cuts(t, m, c.from, c.to)
		has(t, fmt.Sprintf("P9.1: Cut from %d to %d", c.from, c.to), m, c.want...)
	}
}

func TestCutThroughMany(t *testing.T) {
	m := of(t, piece(0, 4, 1, 0), piece(6, 2, 2, 0), piece(8, 2, 3, 0), piece(12, 4, 4, 0), piece(20, 1, 5, 0))
	cuts(t, m, 3, 13)
	has(t, "P9.1: through many", m, piece(0, 3, 1, 0), piece(13, 3, 4, 1), piece(20, 1, 5, 0))
	cuts(t, m, 3, 13)
	has(t, "P9.1: a hole again", m, piece(0, 3, 1, 0), piece(13, 3, 4, 1), piece(20, 1, 5, 0))
}

// TestRefused holds each wrong number against ErrRange, and that nothing has changed.
func TestRefused(t *testing.T) {
	const most = 1 << 30
	kept := []Piece{piece(0, 10, 1, 0), piece(20, 5, 2, 3)}
	m := of(t, kept...)
	good := piece(3, 4, 5, 6)
	for i, field := range []func(p *Piece) *int{
		func(p *Piece) *int { return &p.Off },
		func(p *Piece) *int { return &p.Len },
		func(p *Piece) *int { return &p.Page },
		func(p *Piece) *int { return &p.At },
	} {
		wrong := []int{-1, math.MinInt, most + 1, 1 << 32, math.MaxInt}
		if i == 1 {
			wrong = append(wrong, 0)
		}
		for _, w := range wrong {
			p := good
			*field(&p) = w
			bare(t, fmt.Sprintf("P9.1: Put of %v", p), m.Put(p))
		}
	}
	for _, c := range [][2]int{{-1, 5}, {-1, -1}, {math.MinInt, math.MaxInt}, {5, 4}, {1, 0}, {0, 1<<32 + 1}, {1<<32 + 1, 1<<32 + 1}, {0, math.MaxInt}, {math.MaxInt, math.MinInt}, {0, math.MinInt}} {
		bare(t, fmt.Sprintf("P9.1: Cut of %v", c), m.Cut(c[0], c[1]))
	}
	has(t, "P9.1: refused", m, kept...)
}

// TestFurthest puts what is just within the limits.
func TestFurthest(t *testing.T) {
	const most = 1 << 30
	least := piece(0, 1, 0, 0)
	m := of(t, piece(most, most, most, most), least)
	has(t, "P9.1: the limits", m, least, piece(most, most, most, most))
	finds(t, m, piece(most, most, most, most), most, 2*most-1)
	misses(t, m, 1, most-1, 2*most)
	ranges(t, m, most+5, math.MaxInt, piece(most+5, most-5, most, most+5))
	cuts(t, m, most+1, 2*most-1)
	has(t, "P9.1: cut there", m, least, piece(most, 1, most, most), piece(2*most-1, 1, most, 2*most-1))
	long := of(t, piece(0, most, 3, 0), piece(most, most, 3, most))
	has(t, "P9.2: longer than any is put", long, piece(0, 2*most, 3, 0))
	cuts(t, long, 0, 2*most-1)
	has(t, "P9.1: its last place", long, piece(2*most-1, 1, 3, 2*most-1))
}

func TestSideBySide(t *testing.T) {
	a, b, c := piece(10, 5, 1, 20), piece(15, 5, 1, 25), piece(20, 5, 1, 30)
	for _, l := range [][]Piece{{a, b, c}, {a, c, b}, {b, a, c}, {b, c, a}, {c, a, b}, {c, b, a}} {
		has(t, fmt.Sprint("P9.2: joined: ", l), of(t, l...), piece(10, 15, 1, 20))
	}
	for _, p := range []Piece{piece(15, 5, 2, 25), piece(15, 5, 1, 24), piece(15, 5, 1, 26), piece(15, 5, 1, 20), piece(16, 5, 1, 25), piece(16, 5, 1, 26)} {
		has(t, "P9.2: not joined", of(t, a, p), a, p)
		has(t, "P9.2: not joined", of(t, p, a), a, p)
	}
	swapped := of(t, piece(10, 5, 1, 25), piece(15, 5, 1, 20)) // side by side in the page, the other way round
	has(t, "P9.2: not joined", swapped, piece(10, 5, 1, 25), piece(15, 5, 1, 20))
}

func TestJoinedAgain(t *testing.T) {
	whole := piece(0, 10, 1, 5)
	m := of(t, whole)
	cuts(t, m, 3, 5)
	puts(t, m, piece(3, 2, 1, 8))
	has(t, "P9.2: a hole filled", m, whole)
	puts(t, m, piece(3, 2, 2, 0))
	puts(t, m, piece(3, 2, 1, 8))
	has(t, "P9.2: put back", m, whole)
	finds(t, m, whole, 0, 3, 4, 5, 9)
	ranges(t, m, 2, 6, piece(2, 4, 1, 7))
	puts(t, m, piece(4, 2, 1, 9))
	has(t, "P9.2: put where it is", m, whole)
	puts(t, m, piece(8, 4, 1, 13))
	has(t, "P9.2: put further", m, piece(0, 12, 1, 5))
}

func TestFind(t *testing.T) {
	a, b, c := piece(2, 3, 1, 7), piece(5, 1, 2, 0), piece(10, 4, 1, 10)
	m := of(t, a, b, c)
	finds(t, m, a, 2, 3, 4)
	finds(t, m, b, 5)
	finds(t, m, c, 10, 13)
	misses(t, m, math.MinInt, -1, 0, 1, 6, 9, 14, math.MaxInt)
	misses(t, New(), math.MinInt, -1, 0, 1, math.MaxInt)
}

func TestRange(t *testing.T) {
	a, b, c := piece(2, 3, 1, 7), piece(5, 1, 2, 0), piece(10, 4, 1, 10)
	m := of(t, a, b, c)
	ranges(t, m, 0, 20, a, b, c)
	ranges(t, m, math.MinInt, math.MaxInt, a, b, c)
	ranges(t, m, 2, 14, a, b, c)
	ranges(t, m, 3, 13, piece(3, 2, 1, 8), b, piece(10, 3, 1, 10))
	ranges(t, m, 4, 11, piece(4, 1, 1, 9), b, piece(10, 1, 1, 10))
	ranges(t, m, 11, 13, piece(11, 2, 1, 11))
	ranges(t, m, 5, 6, b)
	ranges(t, m, -5, 3, piece(2, 1, 1, 7))
	ranges(t, m, 13, 99, piece(13, 1, 1, 13))
	for _, c := range [][2]int{{0, 2}, {6, 10}, {14, 99}, {3, 3}, {11, 11}, {13, 3}, {4, 3}, {-9, -3}, {math.MaxInt, math.MinInt}, {math.MinInt, 0}, {50, math.MaxInt}} {
		ranges(t, m, c[0], c[1])
	}
	ranges(t, New(), math.MinInt, math.MaxInt)
}

func TestPages(t *testing.T) {
	m := of(t, piece(0, 1, 9, 0), piece(5, 1, 2, 0), piece(10, 1, 9, 9), piece(15, 1, 0, 0), piece(20, 1, 2, 0))
	pages(t, m, 0, 2, 9)
	cuts(t, m, 0, 6)
	pages(t, m, 0, 2, 9)
	cuts(t, m, 10, 16)
	pages(t, m, 2)
	cuts(t, m, 0, 99)
	pages(t, m)
}

func TestEmpty(t *testing.T) {
	var zero, cut Map
	var none *Map
	cuts(t, &cut, 0, 1<<32)
	for _, m := range []*Map{New(), &zero, &cut, none, of(t).Copy(), none.Copy()} {
		has(t, "P9.3: nothing there", m)
		misses(t, m, -1, 0, 1)
		ranges(t, m, 0, 99)
		pages(t, m)
	}
	bare(t, "P9.3: Put of nil", none.Put(piece(0, 1, 0, 0)))
	bare(t, "P9.3: Cut of nil", none.Cut(0, 1))
	bare(t, "P9.3: Cut of nothing of nil", none.Cut(0, 0))
	puts(t, &zero, piece(3, 4, 5, 6))
	has(t, "P9.3: a zero one", &zero, piece(3, 4, 5, 6))
}

func TestCopy(t *testing.T) {
	a, b := piece(0, 10, 1, 0), piece(20, 5, 2, 3)
	m := of(t, a, b)
	c := m.Copy()
	has(t, "P9.3: a copy", c, a, b)
	cuts(t, m, 2, 22)
	has(t, "P9.3: a copy stays", c, a, b)
	puts(t, c, piece(0, 10, 3, 0))
	has(t, "P9.3: the first one stays", m, piece(0, 2, 1, 0), piece(22, 3, 2, 5))
	has(t, "P9.3: a copy goes on", c, piece(0, 10, 3, 0), b)
	d := c.Copy()
	puts(t, c, piece(25, 1, 2, 8)) // joined in place
	has(t, "P9.3: a copy stays", d, piece(0, 10, 3, 0), b)
}

func TestAnswersAreNew(t *testing.T) {
	m := of(t, piece(0, 1, 1, 0), piece(5, 1, 2, 0), piece(10, 1, 3, 0))
	cuts(t, m, 10, 11) // with room to spare
	told, part, all, pageList := m.Pieces(), m.Range(0, 3), m.Range(0, 99), m.Pages()
	for _, l := range [][]Piece{told, part, all} {
		l = l[:cap(l)]
		for i := range l {
			l[i] = piece(7, 7, 7, 7)
		}
	}
	clear(pageList[:cap(pageList)])
	has(t, "P9.4: what was told is not kept", m, piece(0, 1, 1, 0), piece(5, 1, 2, 0))
	pages(t, m, 1, 2)
	told, all = m.Pieces(), m.Range(0, 99)
	puts(t, m, piece(0, 6, 4, 0))
	if told[0] != piece(0, 1, 1, 0) || all[1] != piece(5, 1, 2, 0) {
		t.Errorf("P9.4: what was told changed: %v, %v", told, all)
	}
}
