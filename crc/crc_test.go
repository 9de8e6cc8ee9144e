package crc

import (
	"bytes"
	"encoding/binary"
	"hash/crc32"
	"math"
	"slices"
	"testing"
)

// patterned is n bytes that do not repeat soon, so that a byte out of place shows.
func patterned(n int) []byte {
	b := make([]byte, n)
	for i := range b {
		b[i] = byte(i*i*7 + i*37 + 11)
	}
	return b
}

// words are some of all shapes: noughts, ones, each single bit and its opposite.
func words() []uint64 {
	out := []uint64{0, math.MaxUint64, 0x0102030405060708, 0xfedcba9876543210, math.MaxUint32, math.MaxUint32 << 32}
	for i := range 64 {
		out = append(out, 1<<i, ^(uint64(1) << i))
	}
	return out
}

// laid is w's bytes, the least first.
func laid(w ...uint64) []byte {
	var b []byte
	for _, one := range w {
		b = binary.LittleEndian.AppendUint64(b, one)
	}
	return b
}

// P2.1

func TestOf(t *testing.T) {
	for _, c := range []struct {
		s    string
		want uint32
	}{
		{"", 0},
		{"123456789", 0xcbf43926},
		{"a", 0xe8b7be43},
		{"\x00", 0xd202ef8d},
		{"\xff", 0xff000000},
		{"\x00\x00\x00\x00", 0x2144df1c},
		{"\xff\xff\xff\xff", 0xffffffff},
		{"The quick brown fox jumps over the lazy dog", 0x414fa339},
	} {
		if got := Of([]byte(c.s)); got != c.want {
			t.Errorf("Of(%q): %08x, want %08x", c.s, got, c.want)
		}
	}
	if got := Of(nil); got != 0 {
		t.Errorf("Of nothing: %08x", got)
	}
}

func TestOfEveryByteAndLength(t *testing.T) {
	for i := range 256 {
		for _, b := range [][]byte{{byte(i)}, {0, byte(i)}, {byte(i), 0}, {0xa5, byte(i), 0x5a}} {
			if got, want := Of(b), crc32.ChecksumIEEE(b); got != want {
				t.Errorf("Of(%x): %08x, want %08x", b, got, want)
			}
		}
	}
	for n := range 300 {
		for _, b := range [][]byte{patterned(n), make([]byte, n), bytes.Repeat([]byte{255}, n)} {
			if got, want := Of(b), crc32.ChecksumIEEE(b); got != want {
				t.Errorf("Of %d bytes: %08x, want %08x", n, got, want)
			}
		}
	}
}

func TestOfWords(t *testing.T) {
	if got := OfWords(); got != 0 {
		t.Errorf("OfWords of none: %08x", got)
	}
	if got, want := OfWords(0x3837363534333231), Of([]byte("12345678")); got != want {
		t.Errorf("OfWords: %08x, want %08x", got, want)
	}
	all := words()
	for i, w := range all {
		if got, want := OfWords(w), crc32.ChecksumIEEE(laid(w)); got != want {
			t.Errorf("OfWords(%x): %08x, want %08x", w, got, want)
		}
		if got, want := OfWords(all[:i]...), crc32.ChecksumIEEE(laid(all[:i]...)); got != want {
			t.Errorf("OfWords of %d words: %08x, want %08x", i, got, want)
		}
	}
}

func TestSumGoesOn(t *testing.T) {
	b := patterned(80)
	for cut := range b {
		var s Sum
		s.Add(b[:cut]...)
		if got, want := s.Sum(), Of(b[:cut]); got != want {
			t.Errorf("a Sum of %d bytes: %08x, want %08x", cut, got, want)
		}
		s.Add(b[cut:]...)
		if got := s.Sum(); got != Of(b) || got != s.Sum() {
			t.Errorf("a Sum cut at %d: %08x, want %08x", cut, got, Of(b))
		}
	}
	one := new(Sum)
	for i := range b {
		if got, want := one.Add(b[i]).Sum(), Of(b[:i+1]); got != want {
			t.Errorf("a Sum byte by byte at %d: %08x, want %08x", i, got, want)
		}
	}
}

func TestSumOfBytesAndWords(t *testing.T) {
	for _, w := range words() {
		want := crc32.ChecksumIEEE(slices.Concat([]byte("ab"), laid(w), []byte("c"), laid(w, 7)))
		if got := new(Sum).Add('a', 'b').Word(w).Add().Add('c').Word(w).Word(7).Sum(); got != want {
			t.Errorf("a Sum with %x: %08x, want %08x", w, got, want)
		}
	}
}

func TestZeroSum(t *testing.T) {
	var s Sum
	if s.Sum() != 0 || s.Add().Sum() != 0 || s.Add(nil...).Sum() != 0 {
		t.Errorf("a Sum of nothing: %08x", s.Sum())
	}
	if got, want := s.Add(0).Sum(), Of([]byte{0}); got != want {
		t.Errorf("a nought is not nothing: %08x, want %08x", got, want)
	}
	if got, want := new(Sum).Word(0).Sum(), Of(make([]byte, 8)); got != want {
		t.Errorf("a word 0 is not nothing: %08x, want %08x", got, want)
	}
}

func TestSumTellsItsReceiver(t *testing.T) {
	s := new(Sum)
	if s.Add() != s || s.Add(1, 2) != s || s.Word(0) != s || s.Word(9) != s {
		t.Error("Add and Word answer another Sum than theirs")
	}
}

func TestNilSum(t *testing.T) {
	var none *Sum
	if none.Sum() != 0 {
		t.Errorf("Sum of nil: %08x", none.Sum())
	}
	if none.Add() != nil || none.Add(1, 2) != nil || none.Word(0) != nil || none.Word(9) != nil {
		t.Error("Add and Word of nil answer a Sum")
	}
	if got := none.Add(1).Word(2).Add(3).Sum(); got != 0 {
		t.Errorf("Sum of nil behind calls in a row: %08x", got)
	}
}

func TestSumsAreApart(t *testing.T) {
	a, b := new(Sum).Add('a'), new(Sum).Add('b')
	was := *a
	a.Add('c')
	if b.Sum() != Of([]byte("b")) || was.Sum() != Of([]byte("a")) || a.Sum() != Of([]byte("ac")) {
		t.Errorf("Sums share something: %08x %08x %08x", a.Sum(), b.Sum(), was.Sum())
	}
}

// P2.2

func TestSeal(t *testing.T) {
	for _, c := range []struct{ w, want uint64 }{
		{0, 0x2144df1c_00000000},
		{7, uint64(crc32.ChecksumIEEE([]byte{7, 0, 0, 0}))<<32 | 7},
		{0x34333231, uint64(crc32.ChecksumIEEE([]byte("1234")))<<32 | 0x34333231},
		{0xabcdef00_34333231, uint64(crc32.ChecksumIEEE([]byte("1234")))<<32 | 0x34333231},
		{math.MaxUint32, math.MaxUint64},
		{math.MaxUint64, math.MaxUint64},
	} {
		if got := Seal(c.w); got != c.want {
			t.Errorf("Seal(%x): %016x, want %016x", c.w, got, c.want)
		}
	}
	for _, w := range words() {
		got, low := Seal(w), uint32(w)
		if uint32(got) != low || uint32(got>>32) != crc32.ChecksumIEEE(laid(w)[:4]) {
			t.Errorf("Seal(%x): %016x", w, got)
		}
		if got != Seal(uint64(low)) || got != Seal(got) {
			t.Errorf("Seal(%x) hangs on the high bits", w)
		}
	}
}

func TestSealed(t *testing.T) {
	for _, w := range words() {
		if got, ok := Sealed(Seal(w)); !ok || got != uint32(w) {
			t.Errorf("Sealed(Seal(%x)): %x %v", w, got, ok)
		}
	}
}

func TestSealedRefused(t *testing.T) {
	for _, w := range []uint64{0, 1, 7, math.MaxUint32, math.MaxUint32 << 32, 1 << 63, 0x2144df1c, 0x2144df1c_00000001, Seal(7)>>32 | 7<<32} {
		wantUnsealed(t, w)
	}
}

func wantUnsealed(t *testing.T, w uint64) {
	t.Helper()
	if got, ok := Sealed(w); ok || got != 0 {
		t.Errorf("Sealed(%016x): %x %v, want 0 and false", w, got, ok)
	}
}

// P2.3

func TestOneBitTurned(t *testing.T) {
	for _, n := range []int{1, 2, 7, 8, 9, 64, 200} {
		b := patterned(n)
		was := Of(b)
		for bit := range 8 * n {
			b[bit/8] ^= 1 << (bit % 8)
			if Of(b) == was {
				t.Errorf("Of %d bytes stays with bit %d turned", n, bit)
			}
			b[bit/8] ^= 1 << (bit % 8)
		}
	}
	for _, w := range words() {
		for bit := range 64 {
			wantUnsealed(t, Seal(w)^1<<bit)
			if OfWords(3, w^1<<bit) == OfWords(3, w) {
				t.Errorf("OfWords stays with bit %d of %x turned", bit, w)
			}
		}
	}
}

func TestThreeOverEachOther(t *testing.T) {
	for n := range 100 {
		a, b, c := patterned(n + 2)[2:], patterned(3 * n)[2*n:], bytes.Repeat([]byte{0x3c}, n)
		over := make([]byte, n)
		for i := range over {
			over[i] = a[i] ^ b[i] ^ c[i]
		}
		if got, want := Of(over), Of(a)^Of(b)^Of(c); got != want {
			t.Errorf("three texts of %d bytes: %08x, want %08x", n, got, want)
		}
	}
}

func TestWhatIsHandedInStays(t *testing.T) {
	whole := patterned(24)
	Of(whole[:16])
	new(Sum).Add(whole[:16]...)
	if !bytes.Equal(whole, patterned(24)) {
		t.Errorf("bytes handed in were changed: %x", whole)
	}
	many := []uint64{1, 2, 3, 77}
	OfWords(many[:3]...)
	if !slices.Equal(many, []uint64{1, 2, 3, 77}) {
		t.Errorf("words handed in were changed: %v", many)
	}
}

func TestWhatIsHandedInIsNotKept(t *testing.T) {
	b := []byte("123456")
	s := new(Sum).Add(b...)
	clear(b)
	if got, want := s.Add('7', '8', '9').Sum(), uint32(0xcbf43926); got != want {
		t.Errorf("a Sum kept what it was given: %08x, want %08x", got, want)
	}
}

func FuzzOf(f *testing.F) {
	f.Add([]byte("123456789"), 4)
	f.Fuzz(func(t *testing.T, b []byte, cut int) {
		want := crc32.ChecksumIEEE(b)
		if got := Of(b); got != want {
			t.Errorf("Of(%x): %08x, want %08x", b, got, want)
		}
		cut = min(max(cut, 0), len(b))
		if got := new(Sum).Add(b[:cut]...).Add(b[cut:]...).Sum(); got != want {
			t.Errorf("a Sum of %x cut at %d: %08x, want %08x", b, cut, got, want)
		}
	})
}
