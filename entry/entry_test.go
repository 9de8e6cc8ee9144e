package entry

import (
	"bytes"
	"math"
	"reflect"
	"slices"
	"strings"
	"testing"

	"dolmen/api"
	"dolmen/bits"
	"dolmen/crc"
)

const most = api.MaxEpoch

func write(epoch, off int, data string) Entry {
	return Entry{Kind: KWrite, Epoch: epoch, Off: off, Data: []byte(data)}
}

func size(epoch, n int) Entry { return Entry{Kind: KSize, Epoch: epoch, Off: n} }

func name(epoch int, s string, ino int) Entry {
	return Entry{Kind: KName, Epoch: epoch, Name: s, Ino: ino}
}

func gone(epoch int, s string) Entry { return Entry{Kind: KGone, Epoch: epoch, Name: s} }

func snap(epoch, n int) Entry { return Entry{Kind: KSnap, Epoch: epoch, Ino: n} }

// bytesOf is n bytes, of which no two that stand side by side are alike.
func bytesOf(n int) string {
	b := make([]byte, n)
	for i := range b {
		b[i] = byte(i%250 + 1)
	}
	return string(b)
}

// some is one of each kind, and some at the edges.
func some() []Entry {
	return []Entry{
		write(300, 5, "hello"), size(1, 0), name(2, "a/é", 9), gone(3, "n"), snap(most, maxIno),
		write(1, 0, bytesOf(api.MaxFile)), write(most, api.MaxFile-1, "\x00"), size(1, api.MaxFile),
		name(1, strings.Repeat("\xff", api.MaxName), maxIno), gone(most, "\x00"), snap(1, 1),
	}
}

// tells holds an error against the bare number wanted; 0: none.
func tells(t *testing.T, what string, err error, want api.Errno) {
	t.Helper()
	switch {
	case want == 0 && err != nil:
		t.Errorf("%s: %v; want no error", what, err)
	case want != 0 && err != error(want):
		t.Errorf("%s: %#v; want %v, bare", what, err, want)
	}
}

// checked holds what Check and Encode tell of an entry against the number wanted; 0: none.
func checked(t *testing.T, e Entry, want api.Errno) {
	t.Helper()
	tells(t, "P12.1: Check", Check(e), want)
	w, err := Encode(e)
	tells(t, "P12.2: Encode", err, want)
	if (len(w) == 0) != (want != 0) {
		t.Errorf("P12.2: Encode of %v: %d words", e, len(w))
	}
}

// encoded is an entry's words.
func encoded(t *testing.T, e Entry) []uint64 {
	t.Helper()
	w, err := Encode(e)
	tells(t, "P12.2: Encode", err, 0)
	return w
}

// sealed is words that begin as an entry of that kind does, with these bytes behind it, and whose sum is right.
func sealed(kind int, b ...byte) []uint64 {
	body := bits.Words(b)
	first := uint64(kind) | 165<<8 | uint64(len(body))<<16 | uint64(crc.OfWords(body...))<<32
	return append([]uint64{first}, body...)
}

// takes holds what Decode answers against the entry wanted, field by field, and how many words.
func takes(t *testing.T, w []uint64, want Entry, words int) {
	t.Helper()
	e, n, err := Decode(w)
	tells(t, "P12.2: Decode", err, 0)
	if !reflect.DeepEqual(e, want) || n != words {
		t.Errorf("P12.2: Decode: %v, %d; want %v, %d", e, n, want, words)
	}
}

// bad holds that Decode takes nothing, and Scan neither.
func bad(t *testing.T, what string, w []uint64) {
	t.Helper()
	e, n, err := Decode(w)
	tells(t, "P12.2: Decode: "+what, err, api.ErrBad)
	if !reflect.DeepEqual(e, Entry{}) || n != 0 {
		t.Errorf("P12.2: Decode: %s: %v, %d beside an error", what, e, n)
	}
	if l, n := Scan(w); len(l) != 0 || n != 0 {
		t.Errorf("P12.2: Scan: %s: %v, %d", what, l, n)
	}
}

// bytesIn joins lists of bytes.
func bytesIn(l ...[]byte) []byte { return slices.Concat(l...) }

// number is 1's Varint.
func number(v uint64) []byte { return bits.Varint(v) }

func TestCheckLimits(t *testing.T) {
	for _, kind := range []int{-1, 0, KSnap + 1, KWrite + 256, math.MinInt, math.MaxInt} {
		checked(t, Entry{Kind: kind, Epoch: 1, Data: []byte("a"), Name: "a", Ino: 1}, api.ErrArg)
	}
	for _, e := range some() {
		checked(t, e, 0)
		for _, epoch := range []int{1, 2, most - 1, most} {
			e.Epoch = epoch
			checked(t, e, 0)
		}
		for _, epoch := range []int{0, -1, most + 1, math.MinInt, math.MaxInt} {
			e.Epoch = epoch
			checked(t, e, api.ErrArg)
		}
	}
	for _, n := range []int{-1, api.MaxFile + 1, math.MinInt, math.MaxInt} {
		checked(t, size(1, n), api.ErrArg)
		checked(t, write(1, n, "a"), api.ErrArg)
		checked(t, write(1, n, ""), api.ErrArg)
	}
	for _, n := range []int{0, -1, maxIno + 1, math.MinInt, math.MaxInt} {
		checked(t, name(1, "a", n), api.ErrArg)
		checked(t, snap(1, n), api.ErrArg)
	}
	for _, s := range []string{"", strings.Repeat("n", api.MaxName+1), strings.Repeat("é", 7), bytesOf(1000)} {
		checked(t, name(1, s, 1), api.ErrArg)
		checked(t, gone(1, s), api.ErrArg)
	}
	for _, s := range []string{"a", "/", "*?", "\x00", strings.Repeat("é", 6), strings.Repeat("n", api.MaxName)} {
		checked(t, name(1, s, 1), 0)
		checked(t, gone(1, s), 0)
	}
}

func TestCheckData(t *testing.T) {
	checked(t, write(1, 0, ""), api.ErrArg)
	checked(t, Entry{Kind: KWrite, Epoch: 1}, api.ErrArg)
	for _, off := range []int{0, 1, 1000, api.MaxFile - 1} {
		checked(t, write(1, off, bytesOf(api.MaxFile-off)), 0)
		checked(t, write(1, off, bytesOf(api.MaxFile-off+1)), api.ErrArg)
	}
	checked(t, write(1, api.MaxFile, "a"), api.ErrArg)
	checked(t, write(1, -1, bytesOf(2)), api.ErrArg)
}

// TestUnaskedFields: what a kind does not have may be anything, leaves the words as they are, and is zero in what is answered.
func TestUnaskedFields(t *testing.T) {
	for _, e := range some() {
		wild := Entry{Kind: e.Kind, Epoch: e.Epoch, Off: -7, Data: []byte(bytesOf(3000)), Name: bytesOf(20), Ino: -3}
		switch e.Kind {
		case KWrite:
			wild.Off, wild.Data = e.Off, e.Data
		case KSize:
			wild.Off = e.Off
		case KName:
			wild.Name, wild.Ino = e.Name, e.Ino
		case KGone:
			wild.Name = e.Name
		case KSnap:
			wild.Ino = e.Ino
		}
		checked(t, wild, 0)
		w := encoded(t, wild)
		if !slices.Equal(w, encoded(t, e)) {
			t.Errorf("P12.2: Encode of %v hangs on what its kind does not have", e)
		}
		takes(t, w, e, len(w))
		if !Same(wild, e) || !Same(e, wild) {
			t.Errorf("P12.3: Same of %v hangs on what its kind does not have", e)
		}
	}
}

func TestWordsOfEach(t *testing.T) {
	long := bytesOf(api.MaxFile)
	for _, x := range []struct {
		e    Entry
		body []byte
	}{
		{write(300, 5, "hello"), []byte{0xAC, 2, 5, 5, 'h', 'e', 'l', 'l', 'o'}},
		{write(1, 130, "\x00"), []byte{1, 0x82, 1, 1, 0}},
		{size(1, 0), []byte{1, 0}},
		{size(2, 2000), []byte{2, 0xD0, 0x0F}},
		{name(2, "ab", 300), []byte{2, 2, 'a', 'b', 0xAC, 2}},
		{name(1, "é", maxIno), []byte{1, 2, 0xC3, 0xA9, 0x80, 0x80, 0x80, 0x80, 4}},
		{gone(3, "n"), []byte{3, 1, 'n'}},
		{snap(1, 2), []byte{1, 2}},
		{snap(most, 1), []byte{0x80, 0x80, 0x80, 0x80, 0x80, 0x20, 1}},
		{write(1, 0, long), append([]byte{1, 0, 0xD0, 0x0F}, long...)},
	} {
		w := encoded(t, x.e)
		if !slices.Equal(w, sealed(x.e.Kind, x.body...)) {
			t.Errorf("P12.2: Encode of kind %d: %x", x.e.Kind, w)
		}
		takes(t, w, x.e, len(w))
	}
	w := encoded(t, snap(1, 2))
	if len(w) != 2 || byte(w[0]) != 5 || byte(w[0]>>8) != 165 || uint16(w[0]>>16) != 1 || uint32(w[0]>>32) != crc.Of([]byte{1, 2, 0, 0, 0, 0, 0, 0}) || w[1] != 0x201 {
		t.Errorf("P12.2: the example: %x", w)
	}
	if n := len(encoded(t, write(most, 0, long))); n != 253 {
		t.Errorf("P12.2: the longest entry: %d words", n)
	}
}

func TestDecodeBehind(t *testing.T) {
	for _, e := range some() {
		w := encoded(t, e)
		for _, behind := range [][]uint64{nil, {0}, {math.MaxUint64, 7}, w} {
			takes(t, slices.Concat(w, behind), e, len(w))
		}
	}
}

func TestDecodeTorn(t *testing.T) {
	bad(t, "of none", nil)
	bad(t, "a nought", []uint64{0})
	for _, e := range some() {
		w := encoded(t, e)
		for k := range w {
			bad(t, "cut off", w[:k])
		}
		for k := range w {
			if k > 3 && k < len(w)-2 {
				continue
			}
			for bit := range 64 {
				torn := slices.Clone(w)
				torn[k] ^= 1 << bit
				if k == 0 && bit < 8 && isAnother(torn) {
					continue
				}
				bad(t, "a bit turned", torn)
			}
		}
		bad(t, "a word ahead", append([]uint64{0}, w...))
	}
}

// isAnother tells whether words are those of an entry. Where the kind alone is turned, they may be: the sum is that of the words behind.
func isAnother(w []uint64) bool {
	e, n, err := Decode(w)
	again, none := Encode(e)
	return err == nil && none == nil && n == len(w) && slices.Equal(again, w)
}

// TestDecodeSealed: words whose sum is right, but which Encode tells of no entry.
func TestDecodeSealed(t *testing.T) {
	takes(t, sealed(KSnap, 1, 2), snap(1, 2), 2)
	for _, kind := range []int{0, 6, 7, 64, 128, 255} {
		bad(t, "of no kind", sealed(kind, 1, 1, 1, 1))
	}
	for kind := KWrite; kind <= KSnap; kind++ {
		bad(t, "of no byte", sealed(kind))
		bad(t, "of noughts", sealed(kind, 0))
		bad(t, "of an epoch that is none", sealed(kind, 255, 255, 255, 255, 255, 255, 255, 255))
	}
	bad(t, "an epoch 0", sealed(KSnap, 0, 2))
	bad(t, "an epoch too high", sealed(KSnap, bytesIn(number(most+1), number(2))...))
	bad(t, "the highest epoch of all", sealed(KSnap, bytesIn(number(math.MaxUint64), number(2))...))
	bad(t, "an epoch of too many groups", sealed(KSnap, 0x81, 0, 2))
	bad(t, "a number of too many groups", sealed(KSnap, 1, 0x82, 0))
	bad(t, "a number that goes on at the end", sealed(KSnap, 1, 0x82, 0x82, 0x82, 0x82, 0x82, 0x82, 0x82))
	bad(t, "a number 0", sealed(KSnap, 1, 0))
	bad(t, "a number too high", sealed(KSnap, bytesIn(number(1), number(maxIno+1))...))
	bad(t, "a number above an int", sealed(KSnap, bytesIn(number(1), number(1<<63+5))...))
	bad(t, "a byte behind", sealed(KSnap, 1, 2, 3))
	bad(t, "a byte behind noughts", sealed(KSnap, 1, 2, 0, 0, 0, 0, 0, 1))
	bad(t, "a word of noughts behind", sealed(KSnap, 1, 2, 0, 0, 0, 0, 0, 0, 0))
	bad(t, "a size too high", sealed(KSize, bytesIn(number(1), number(api.MaxFile+1))...))
	bad(t, "a size above an int", sealed(KSize, bytesIn(number(1), number(math.MaxUint64))...))
	bad(t, "a size that is none", sealed(KSize, 1, 0x80, 0))
	takes(t, sealed(KSize, 1), size(1, 0), 2) // the nought behind is the size
	bad(t, "a size that is not there", sealed(KSize, number(1<<49)...))
}

// TestDecodeSealedTexts: the same of names and data.
func TestDecodeSealedTexts(t *testing.T) {
	bad(t, "no data", sealed(KWrite, 1, 5, 0))
	bad(t, "data that is not there", sealed(KWrite, 1, 0, 6, 'a', 'b', 'c', 'd', 'e'))
	takes(t, sealed(KWrite, 1, 0, 5, 'a', 'b', 'c', 'd', 'e'), write(1, 0, "abcde"), 2)
	bad(t, "data of how many bytes in too many groups", sealed(KWrite, 1, 0, 0x81, 0, 'a'))
	bad(t, "data beyond an int", sealed(KWrite, bytesIn(number(1), number(0), number(math.MaxUint64), []byte("abc"))...))
	bad(t, "too much data", sealed(KWrite, bytesIn(number(1), number(0), bits.Text(bytesOf(2001)))...))
	bad(t, "data beyond the end", sealed(KWrite, bytesIn(number(1), number(1999), bits.Text("ab"))...))
	bad(t, "data at no place", sealed(KWrite, bytesIn(number(1), number(math.MaxUint64), bits.Text("ab"))...))
	for _, kind := range []int{KName, KGone} {
		bad(t, "no name", sealed(kind, 1, 0, 5))
		bad(t, "too long a name", sealed(kind, bytesIn(number(1), bits.Text(bytesOf(13)), number(5))...))
		bad(t, "a name that is not there", sealed(kind, 1, 12, 'a', 5))
	}
	bad(t, "a name to 0", sealed(KName, 1, 1, 'a', 0))
	bad(t, "a name to too high a one", sealed(KName, bytesIn(number(1), bits.Text("a"), number(maxIno+1))...))
	bad(t, "a name to none", sealed(KName, 1, 6, 'a', 'b', 'c', 'd', 'e', 'f'))
	bad(t, "a name gone, and an inode", sealed(KGone, 1, 1, 'a', 5))
}

func TestScan(t *testing.T) {
	var log []uint64
	var ends []int // behind each entry
	for _, e := range some() {
		log = append(log, encoded(t, e)...)
		ends = append(ends, len(log))
	}
	for _, behind := range [][]uint64{nil, {0}, {5, 6}, sealed(KSnap, 0, 2), log[:2]} {
		l, n := Scan(slices.Concat(log, behind))
		if !reflect.DeepEqual(l, some()) || n != len(log) {
			t.Errorf("P12.2: Scan: %d entries, %d words", len(l), n)
		}
	}
	for cut := range log {
		want := 0
		for want < len(ends) && ends[want] <= cut {
			want++
		}
		at := 0
		if want > 0 {
			at = ends[want-1]
		}
		if l, n := Scan(log[:cut]); len(l) != want || n != at {
			t.Errorf("P12.2: Scan of %d words: %d entries, %d words; want %d, %d", cut, len(l), n, want, at)
		}
	}
	torn := slices.Clone(log)
	torn[ends[2]] ^= 1
	if l, n := Scan(torn); len(l) != 3 || n != ends[2] {
		t.Errorf("P12.2: Scan of a log torn in its midst: %d entries, %d words", len(l), n)
	}
	if l, n := Scan(nil); len(l) != 0 || n != 0 {
		t.Errorf("P12.2: Scan of none: %v, %d", l, n)
	}
}

func TestSame(t *testing.T) {
	l := some()
	for i, a := range l {
		for j, b := range l {
			if Same(a, b) != (i == j) {
				t.Errorf("P12.3: Same of %d and %d: %v", i, j, i != j)
			}
		}
	}
	for _, x := range []struct {
		a, b Entry
		want bool
	}{
		{size(1, 2), size(1, 3), false},
		{size(1, 2), size(2, 2), false},
		{write(1, 0, "ab"), write(1, 0, "ab"), true},
		{write(1, 0, "ab"), write(1, 0, "ac"), false},
		{write(1, 0, "ab"), write(1, 0, "abc"), false},
		{write(1, 0, "ab"), write(1, 1, "ab"), false},
		{Entry{Kind: KWrite, Epoch: 1}, write(1, 0, ""), true},
		{name(1, "a", 2), name(1, "a", 3), false},
		{name(1, "a", 2), name(1, "b", 2), false},
		{name(1, "a", 2), gone(1, "a"), false},
		{gone(1, "a"), gone(1, "b"), false},
		{snap(1, 2), snap(1, 3), false},
		{write(1, 1, "a"), Entry{Kind: KSize, Epoch: 1, Off: 1, Data: []byte("a")}, false},
		{Entry{Kind: 9, Epoch: 1, Off: 3}, Entry{Kind: 9, Epoch: 1, Name: "x"}, true}, // of no kind: all have the epoch alone
		{Entry{Kind: 9, Epoch: 1}, Entry{Kind: 9, Epoch: 2}, false},
		{Entry{}, Entry{}, true},
	} {
		if Same(x.a, x.b) != x.want || Same(x.b, x.a) != x.want {
			t.Errorf("P12.3: Same(%v, %v): want %v", x.a, x.b, x.want)
		}
	}
}

// TestMemory: nothing handed in is changed, its spare room neither, or kept; what is answered is new.
func TestMemory(t *testing.T) {
	room := []byte("dataspare")
	e := write(1, 0, "")
	e.Data = room[:4]
	w := encoded(t, e)
	room[0] = 'D'
	takes(t, w, write(1, 0, "data"), len(w))
	if !Same(e, write(1, 0, "Data")) || string(room) != "Dataspare" {
		t.Errorf("P12.3: Same and Encode changed %q", room)
	}
	w2 := encoded(t, e)
	clear(w)
	takes(t, w2, write(1, 0, "Data"), len(w2))

	log := slices.Concat(w2, w2, []uint64{77})
	kept := slices.Clone(log)
	one, _, _ := Decode(log[:len(w2)])
	l, n := Scan(log[:2*len(w2)])
	if !slices.Equal(log, kept) || n != 2*len(w2) {
		t.Errorf("P12.3: Decode or Scan changed what it was handed: %x", log)
	}
	clear(log)
	l[0].Data[0] = '?'
	_ = append(l[0].Data, "behind"...)
	if string(one.Data) != "Data" || string(l[1].Data) != "Data" || !bytes.Equal(e.Data, []byte("Data")) {
		t.Errorf("P12.3: data in common: %q, %q, %q", one.Data, l[1].Data, e.Data)
	}
}
