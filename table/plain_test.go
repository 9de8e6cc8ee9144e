package table

import (
	"fmt"
	"slices"
	"strconv"
	"testing"

	"dolmen/api"
)

// dice gives numbers by a rule, the same ones each time.
type dice uint64

func (d *dice) below(n int) int {
	*d = *d*6364136223846793005 + 1442695040888963407
	return int(*d >> 33 % dice(n))
}

const width = 14 // epochs that are played with, from 1 on

// few is the names that are played with, by Less.
func few() []string { return []string{"B", "a", "aa", "é"} }

// plain is a table kept epoch by epoch, with all that ever came in the order in which it came.
type plain struct {
	came  []Entry
	leads [width + 2]map[string]int // of each epoch the inodes
	last  int
}

// newPlain has none.
func newPlain() *plain {
	p := &plain{}
	for e := range p.leads {
		p.leads[e] = map[string]int{}
	}
	return p
}

// open is where the entry of a name stands that has no end; -1: there is none.
func (p *plain) open(name string) int {
	return slices.IndexFunc(p.came, func(e Entry) bool { return e.Name == name && e.Span.Died == 0 })
}

// refused tells what both calls are refused for.
func (p *plain) refused(name string, epoch int) bool {
	return name == "" || epoch < p.last || epoch < 1
}

func (p *plain) add(name string, ino, epoch int) api.Errno {
	switch {
	case p.refused(name, epoch) || ino < 1:
		return api.ErrArg
	case p.open(name) >= 0:
		return api.ErrThere
	}
	p.came = append(p.came, entry(name, ino, epoch, 0))
	for e := epoch; e < len(p.leads); e++ {
		p.leads[e][name] = ino
	}
	p.last = epoch
	return 0
}

func (p *plain) remove(name string, epoch int) api.Errno {
	switch {
	case p.refused(name, epoch):
		return api.ErrArg
	case p.open(name) < 0:
		return api.ErrNone
	}
	p.came[p.open(name)].Span.Died = epoch
	for e := epoch; e < len(p.leads); e++ {
		delete(p.leads[e], name)
	}
	p.last = epoch
	return 0
}

// clean takes out what has an end and none of the epochs, and answers how many went.
func (p *plain) clean(epochs []int) int {
	before := len(p.came)
	p.came = slices.DeleteFunc(p.came, func(x Entry) bool {
		return x.Span.Died != 0 && !slices.ContainsFunc(epochs, func(e int) bool { return x.Span.Born <= e && e < x.Span.Died })
	})
	for e := range p.leads {
		clear(p.leads[e])
	}
	for _, x := range p.came {
		for e := x.Span.Born; e < len(p.leads) && (x.Span.Died == 0 || e < x.Span.Died); e++ {
			p.leads[e][x.Name] = x.Ino
		}
	}
	return before - len(p.came)
}

// holds compares a table with the plain one, by all that it tells.
func (p *plain) holds(t *testing.T, x *Table) {
	t.Helper()
	last(t, x, p.last)
	for e, leads := range p.leads {
		var want []string
		for _, name := range few() {
			finds(t, x, name, e, leads[name])
			if leads[name] != 0 {
				want = append(want, name)
			}
		}
		at(t, x, e, want...)
	}
	var want []Entry
	for _, name := range few() {
		for _, e := range p.came { // epochs do not fall, so that they stand by Born
			if e.Name == name {
				want = append(want, e)
			}
		}
	}
	all(t, x, want...)
}

// someEpochs is some, in no order.
func (d *dice) someEpochs() []int {
	var l []int
	for range d.below(5) {
		l = append(l, d.below(width+2))
	}
	return l
}

// turn does one thing with both; most epochs are such as may be, some fall.
func (p *plain) turn(t *testing.T, x *Table, d *dice) {
	t.Helper()
	name := append(few(), "")[d.below(5)]
	epoch := min(max(p.last, 1)+max(0, d.below(6)-4), width)
	if d.below(8) == 0 {
		epoch = d.below(width + 1)
	}
	switch d.below(9) {
	case 0:
		epochs := d.someEpochs()
		cleans(t, x, epochs, p.clean(epochs))
	case 1, 2, 3:
		remove(t, x, name, epoch, p.remove(name, epoch))
	default:
		ino := d.below(8)
		add(t, x, name, ino, epoch, p.add(name, ino, epoch))
	}
}

// played is a table with which some was done.
func played(t *testing.T, d *dice) *Table {
	t.Helper()
	x, p := New(), newPlain()
	for range 60 {
		p.turn(t, x, d)
	}
	return x
}

// TestAgainstPlain plays with few names at few epochs, so that what is refused comes often.
func TestAgainstPlain(t *testing.T) {
	d := dice(11)
	for range 300 {
		x, p := New(), newPlain()
		for range 60 {
			p.turn(t, x, &d)
			p.holds(t, x)
		}
		if t.Failed() {
			return
		}
	}
}

// TestCleanKeeps holds each name at the epochs that Clean was given, and from Last on, against what it led to ahead of it. Of no epochs it leaves nothing that has an end.
func TestCleanKeeps(t *testing.T) {
	d := dice(111)
	for range 300 {
		x := played(t, &d)
		epochs := d.someEpochs()
		kept := slices.Concat(epochs, []int{x.Last(), x.Last() + 1, most})
		tell := func() string {
			s := ""
			for _, e := range kept {
				for _, name := range x.Names(e) {
					ino, ok := x.Find(name, e)
					s += fmt.Sprint(e, name, ino, ok, " ")
				}
			}
			return s
		}
		before := tell()
		x.Clean(epochs)
		if after := tell(); after != before {
			t.Errorf("P11.4: Clean(%v): %s; was %s", epochs, after, before)
		}
		x.Clean(nil)
		for _, e := range x.All() {
			if e.Span.Died != 0 {
				t.Errorf("P11.2: Clean of no epochs leaves %v", e)
			}
		}
	}
}

// TestOneInode holds the entries of a name that live at one epoch: never two.
func TestOneInode(t *testing.T) {
	d := dice(1111)
	for range 100 {
		x := played(t, &d)
		lives := map[string]int{}
		for _, e := range x.All() {
			for epoch := e.Span.Born; epoch < e.Span.Died || e.Span.Died == 0 && epoch <= width; epoch++ {
				lives[e.Name+strconv.Itoa(epoch)]++
			}
		}
		for what, n := range lives {
			if n != 1 {
				t.Errorf("P11.4: %q leads to %d inodes", what, n)
			}
		}
	}
}

// TestMany adds many names in no order, and one name many times over.
func TestMany(t *testing.T) {
	const n = 50000
	x := New()
	for i := range n {
		add(t, x, strconv.Itoa(i*7919%n), i+1, i+1, 0)
		add(t, x, "again", i+1, i+1, 0)
		remove(t, x, "again", i+2, 0)
	}
	if l := x.Names(n); len(l) != n+1 || !slices.IsSorted(l) {
		t.Errorf("P11.2: Names: %d; want %d, sorted", len(l), n+1)
	}
	var every []int // every second epoch
	for i := range n {
		finds(t, x, "again", i+1, i+1)
		if i%2 == 0 {
			every = append(every, i+1)
		}
	}
	cleans(t, x, every, n/2)
	for i := range n {
		finds(t, x, "again", i+1, (i+1)*((i+1)%2))
	}
	cleans(t, x, nil, n/2)
	cleans(t, x, nil, 0)
	last(t, x, n+1)
	if l := x.All(); len(l) != n {
		t.Errorf("P11.2: All: %d; want %d", len(l), n)
	}
}
