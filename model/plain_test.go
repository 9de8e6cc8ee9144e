package model

import (
	"fmt"
	"maps"
	"slices"
	"strings"
	"testing"

	"dolmen/api"
	"dolmen/fault"
	"dolmen/tree"
)

// dice gives numbers by a rule, the same ones each time.
type dice uint64

func (d *dice) below(n int) int {
	*d = *d*6364136223846793005 + 1442695040888963407
	return int(*d >> 33 % dice(n))
}

// plain is a second model, of plain data alone, that the model is held against: whatever is done on a tree is done on one made anew.
type plain struct {
	live  api.Tree
	snaps map[int]api.Tree
	next  int
}

func newPlain() *plain {
	return &plain{live: tree.New().All(), snaps: map[int]api.Tree{}, next: 1}
}

func (p *plain) ids() []int { return slices.Sorted(maps.Keys(p.snaps)) }

// on is what an operation tells of a tree, and the tree behind it.
func on(x api.Tree, o api.Op) (api.Tree, api.Reply, string) {
	t, err := tree.Of(x)
	if err != nil {
		panic(err)
	}
	r, err := t.Do(o)
	if err != nil {
		return t.All(), r, "tree " + fault.Code(err).Error()
	}
	return t.All(), r, ""
}

// do is what an operation tells, and whose error it has.
func (p *plain) do(o api.Op) (r api.Reply, wrong string) {
	own := func(code api.Errno) (api.Reply, string) { return api.Reply{}, "snap " + code.Error() }
	x, there := p.snaps[o.Snap]
	switch {
	case o.Kind < 1 || o.Kind > 14:
		return own(api.ErrArg)
	case o.Kind <= 11 && o.Snap == 0:
		p.live, r, wrong = on(p.live, o)
		return r, wrong
	case o.Kind <= 11 && !there || o.Kind == 13 && !there:
		return own(api.ErrSnap)
	case o.Kind <= 11 && o.Kind != 7 && o.Kind != 10 && o.Kind != 11:
		return own(api.ErrRead)
	case o.Kind <= 11:
		_, r, wrong = on(x, o)
		return r, wrong
	case o.Kind == 12 && len(p.snaps) == 6:
		return own(api.ErrMany)
	case o.Kind == 12:
		p.snaps[p.next] = p.live
		p.next++
		return api.Reply{N: p.next - 1}, ""
	case o.Kind == 13:
		delete(p.snaps, o.Snap)
		return api.Reply{}, ""
	}
	return api.Reply{Snaps: p.ids()}, ""
}

// whole is all of it, in the words of the model's whole.
func (p *plain) whole() string {
	s := fmt.Sprintf("next %d, live %q", p.next, fmt.Sprintf("%v", p.live))
	for _, id := range p.ids() {
		s += fmt.Sprintf(", %d true %q", id, fmt.Sprintf("%v", p.snaps[id]))
	}
	return s
}

func anyPath(d *dice) string {
	s := ""
	for range 1 + d.below(3) {
		s += "/" + []string{"a", "b", "c", "d"}[min(d.below(4), d.below(4))]
	}
	return []string{s, s, s, s, s, s, "/", "", s + "/"}[min(d.below(9), d.below(9))]
}

// anyOp is an operation; its snapshot is mostly one that is there, was there, or comes next.
func anyOp(d *dice, next int) api.Op {
	kinds := []int{1, 1, 1, 2, 2, 2, 3, 4, 5, 5, 6, 6, 7, 7, 8, 8, 8, 9, 10, 10, 11, 11, 12, 12, 12, 13, 13, 14}
	o := api.Op{
		Kind: kinds[d.below(len(kinds))], Path: anyPath(d), To: anyPath(d), Off: d.below(5) - 1, N: d.below(9) - 1,
		Data: []byte("abcdef")[:d.below(7)],
	}
	if d.below(50) == 0 {
		o.Kind = d.below(40) - 12
	}
	if d.below(3) == 0 || o.Kind == api.OpUnsnap {
		o.Snap = max(next-d.below(9), -1)
	}
	return o
}

// P6.1 to P6.3: however operations follow each other, the model tells what plain data tells, and is what plain data is, so that snapshots stay as they were; and so does a copy that goes on in its place.
func TestAgainstPlain(t *testing.T) {
	seen := make(map[string]int)
	for seed := range 12 {
		d := dice(seed)
		m, p := New(), newPlain()
		for step := range 500 {
			o := anyOp(&d, p.next)
			left := m
			if d.below(10) == 0 {
				m = m.Copy()
			}
			before := whole(left)
			got, err := m.Do(o)
			want, wrong := p.do(o)
			op, path, _ := fault.Op(err)
			told := strings.TrimSpace(op + " " + words(err))
			if shown(got) != shown(want) || told != wrong || err != nil && path != o.Path {
				t.Fatalf("seed %d, step %d, %+v:\n got %s, %v\nwant %s, %s", seed, step, o, shown(got), err, shown(want), wrong)
			}
			if whole(m) != p.whole() {
				t.Fatalf("seed %d, step %d, %+v: the model is\n%s\nwant\n%s", seed, step, o, whole(m), p.whole())
			}
			if (err != nil || left != m) && whole(left) != before {
				t.Fatalf("seed %d, step %d, %+v: changed what it may not", seed, step, o)
			}
			seen[wrong]++
		}
	}
	for _, wrong := range []string{"", "snap no snapshot", "snap read only", "snap too many", "snap argument", "tree nothing there"} {
		if seen[wrong] < 20 {
			t.Errorf("%q came only %d times: the operations try too little", wrong, seen[wrong])
		}
	}
}

func words(err error) string {
	if err == nil {
		return ""
	}
	return fault.Code(err).Error()
}
