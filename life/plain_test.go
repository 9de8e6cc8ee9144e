package life

import (
	"fmt"
	"slices"
	"testing"
)

// dice gives numbers by a rule, the same ones each time.
type dice uint64

func (d *dice) below(n int) int {
	*d = *d*6364136223846793005 + 1442695040888963407
	return int(*d >> 33 % dice(n))
}

const (
	width = 12 // epochs that are played with, from 1 on
	crowd = 9  // ids that are played with, from 0 on
)

// row is one thing epoch by epoch.
type row struct {
	born, died int // 0: not yet
	lives      [width + 2]bool
}

// plain is a book kept epoch by epoch.
type plain map[int]row

func (p plain) birth(id, epoch int) bool {
	if p[id].born != 0 || epoch < 1 {
		return false
	}
	r := row{born: epoch}
	for e := epoch; e < len(r.lives); e++ {
		r.lives[e] = true
	}
	p[id] = r
	return true
}

func (p plain) death(id, epoch int) bool {
	r := p[id]
	if r.born == 0 || r.died != 0 || epoch < r.born {
		return false
	}
	r.died = epoch
	for e := epoch; e < len(r.lives); e++ {
		r.lives[e] = false
	}
	p[id] = r
	return true
}

func (p plain) drop(id int) bool {
	there := p[id].born != 0
	delete(p, id)
	return there
}

// parted is the ids that asked is true of, and the others.
func (p plain) parted(asked func(r row) bool) (yes, no []int) {
	for id := range crowd {
		if r, there := p[id]; there && asked(r) {
			yes = append(yes, id)
		} else if there {
			no = append(no, id)
		}
	}
	return yes, no
}

// needed is the ids that are needed at these epochs, and the others.
func (p plain) needed(epochs []int) (yes, no []int) {
	return p.parted(func(r row) bool {
		return r.died == 0 || slices.ContainsFunc(epochs, func(e int) bool { return r.lives[e] })
	})
}

// holds compares a book with the plain one, by all that it tells.
func (p plain) holds(t *testing.T, b *Book, d *dice) {
	t.Helper()
	has(t, b, len(p))
	for id := range crowd {
		if r, there := p[id]; there {
			spans(t, b, id, span(r.born, r.died))
		} else {
			missing(t, b, id)
		}
	}
	for e := range width + 2 {
		want, _ := p.parted(func(r row) bool { return r.lives[e] })
		at(t, b, e, want...)
	}
	var epochs []int
	for range d.below(5) {
		epochs = append(epochs, d.below(width+2))
	}
	yes, no := p.needed(epochs)
	parted(t, b, epochs, yes, no)
}

// TestAgainstPlain plays with few ids at few epochs, so that what is refused comes often.
func TestAgainstPlain(t *testing.T) {
	d := dice(10)
	for range 200 {
		b, p := New(), plain{}
		for range 60 {
			id, epoch := d.below(crowd), d.below(width+2)
			var err error
			var ok bool
			switch d.below(5) {
			case 0, 1:
				err, ok = b.Birth(id, epoch), p.birth(id, epoch)
			case 2, 3:
				err, ok = b.Death(id, epoch), p.death(id, epoch)
			default:
				err, ok = b.Drop(id), p.drop(id)
			}
			if ok {
				good(t, "P10.1", err)
			} else {
				bare(t, "P10.1", err)
			}
			p.holds(t, b, &d)
		}
		if t.Failed() {
			return
		}
	}
}

// TestFewerEpochs takes epochs away one by one: nothing comes to be needed by that, and with none left just what has no end is.
func TestFewerEpochs(t *testing.T) {
	d := dice(100)
	for range 300 {
		b := New()
		for id := range crowd {
			birth(t, b, id, 1+d.below(width))
			s, _ := b.Span(id)
			if d.below(4) > 0 {
				death(t, b, id, s.Born+d.below(4))
			}
		}
		var epochs []int
		for range 1 + d.below(6) {
			epochs = append(epochs, d.below(width+2))
		}
		for len(epochs) > 0 {
			before := b.Needed(epochs)
			i := d.below(len(epochs))
			epochs = slices.Delete(epochs, i, i+1)
			for _, id := range b.Needed(epochs) {
				if !slices.Contains(before, id) {
					t.Errorf("P10.4: %d is needed at %v, not at these and one more", id, epochs)
				}
			}
		}
		for _, id := range b.Needed(nil) {
			if s, _ := b.Span(id); s.Died != 0 {
				t.Errorf("P10.4: %d is needed at no epoch, its span %v", id, s)
			}
		}
	}
}

// TestMany begins many in no order, ends each, and drops every second one.
func TestMany(t *testing.T) {
	const n = 20000
	b := New()
	for i := range n {
		id := i * 7919 % n // each once
		birth(t, b, id, id+1)
		death(t, b, id, id+2)
	}
	var even, odd []int
	for id := range n {
		if id%2 == 0 {
			even = append(even, id)
		} else {
			odd = append(odd, id)
		}
	}
	at(t, b, 778, 777)
	if needed := b.Needed(odd); !slices.Equal(needed, even) { // an id lives at the epoch behind it alone
		t.Errorf("P10.2: %d are needed; want the even ones", len(needed))
	}
	for _, id := range even {
		drop(t, b, id)
	}
	if dead := b.Dead(nil); !slices.Equal(dead, odd) {
		t.Errorf("P10.2: %d are dead; want the odd ones", len(dead))
	}
	has(t, b, n/2)
	spans(t, b, n-1, span(n, n+1))
	at(t, b, n, n-1)
	at(t, b, n-1)
	lists(t, fmt.Sprint("P10.2: Needed behind all"), b.Needed([]int{n + 1}))
}
