package extent

import (
	"cmp"
	"slices"
	"testing"
)

// dice gives numbers by a rule, the same ones each time.
type dice uint64

func (d *dice) below(n int) int {
	*d = *d*6364136223846793005 + 1442695040888963407
	return int(*d >> 33 % dice(n))
}

const width = 40 // places that are played with

// place is what stands at one: a byte of a page, if it is there.
type place struct {
	there    bool
	page, at int
}

// places is a map kept place by place.
type places [width]place

func (l *places) put(p Piece) {
	for i := range p.Len {
		l[p.Off+i] = place{true, p.Page, p.At + i}
	}
}

func (l *places) cut(from, to int) {
	for i := from; i < min(to, width); i++ {
		l[i] = place{}
	}
}

// pieces is what stands from from to to - 1, in pieces as long as can be.
func (l *places) pieces(from, to int) []Piece {
	var out []Piece
	for i := max(from, 0); i < min(to, width); i++ {
		if !l[i].there {
			continue
		}
		last := len(out) - 1
		if last >= 0 && out[last] == (Piece{i - out[last].Len, out[last].Len, l[i].page, l[i].at - out[last].Len}) {
			out[last].Len++
			continue
		}
		out = append(out, Piece{i, 1, l[i].page, l[i].at})
	}
	return out
}

// holds compares a map with the places, by all that it tells.
func (l *places) holds(t *testing.T, m *Map, d *dice) {
	t.Helper()
	want := l.pieces(0, width)
	has(t, "P9.4", m, want...)
	ranges(t, m, -3, width+3, want...)
	from, to := d.below(width+6)-3, d.below(width+6)-3
	ranges(t, m, from, to, l.pieces(from, to)...)
	for off := -1; off <= width; off++ {
		i, there := slices.BinarySearchFunc(want, off, func(p Piece, off int) int {
			if p.Off <= off && off < p.Off+p.Len {
				return 0
			}
			return cmp.Compare(p.Off, off)
		})
		if there {
			finds(t, m, want[i], off)
		} else {
			misses(t, m, off)
		}
	}
	var of []int
	for _, p := range want {
		of = append(of, p.Page)
	}
	slices.Sort(of)
	pages(t, m, slices.Compact(of)...)
}

// TestAgainstPlaces plays Put and Cut at few places, of few pages, often as their places stand, so that pieces often come to lie side by side.
func TestAgainstPlaces(t *testing.T) {
	d := dice(9)
	for range 200 {
		m, l := New(), places{}
		for range 100 {
			off := d.below(width)
			p := Piece{Off: off, Len: 1 + d.below(min(width-off, 12)), Page: d.below(3), At: off}
			switch d.below(8) {
			case 0:
				to := off + d.below(9)
				cuts(t, m, off, to)
				l.cut(off, to)
				l.holds(t, m, &d)
				continue
			case 1, 2:
				p.At = d.below(4)
			}
			puts(t, m, p)
			l.put(p)
			l.holds(t, m, &d)
		}
		if t.Failed() {
			return
		}
	}
}

// TestCopiesAgainstPlaces goes on from copies of a map, each in its own way, and holds the first one against what it was.
func TestCopiesAgainstPlaces(t *testing.T) {
	d := dice(99)
	m, l := New(), places{}
	for range 300 {
		c, k := m.Copy(), l
		for range 4 {
			off := d.below(width)
			p := Piece{Off: off, Len: 1 + d.below(min(width-off, 8)), Page: d.below(2), At: off}
			puts(t, c, p)
			k.put(p)
			from := d.below(width)
			cuts(t, c, from, from+2)
			k.cut(from, from+2)
		}
		l.holds(t, m, &d)
		k.holds(t, c, &d)
		if d.below(2) == 0 {
			m, l = c, k
		}
	}
}

// TestMany puts many pieces far from each other, then fills what lies between.
func TestMany(t *testing.T) {
	const n = 20000
	m := New()
	for i := range n {
		k := i * 7919 % n // each once, in no order
		puts(t, m, Piece{Off: 10 * k, Len: 5, Page: k, At: 0})
	}
	if l := m.Pieces(); len(l) != n || l[n-1] != (Piece{10 * (n - 1), 5, n - 1, 0}) {
		t.Errorf("P9.2: %d pieces", len(l))
	}
	finds(t, m, Piece{10 * 777, 5, 777, 0}, 7770, 7774)
	puts(t, m, Piece{Off: 3, Len: 10*n - 10, Page: n, At: 0})
	has(t, "P9.1: over nearly all", m, Piece{0, 3, 0, 0}, Piece{3, 10*n - 10, n, 0}, Piece{10*n - 7, 2, n - 1, 3})
	for i := range n {
		puts(t, m, Piece{Off: i, Len: 1, Page: 7, At: 100 + i})
	}
	ranges(t, m, 0, n, Piece{0, n, 7, 100})
}
