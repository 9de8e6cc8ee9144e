package bits

import (
	"bytes"
	"encoding/binary"
	"math"
	mathbits "math/bits"
	"slices"
	"strings"
	"testing"

	"dolmen/api"
)

// patterned is n bytes, none of them 0, so that a byte out of place shows.
func patterned(n int) []byte {
	b := make([]byte, n)
	for i := range b {
		b[i] = byte(i*37)%255 + 1
	}
	return b
}

// roomy is b with spare room behind it, and a look at whether anything of it was changed.
func roomy(b []byte) ([]byte, func() bool) {
	whole := append(slices.Clone(b), 0xa5, 0x5a, 0xa5, 0x5a, 0xa5, 0x5a, 0xa5, 0x5a)
	before := slices.Clone(whole)
	return whole[:len(b)], func() bool { return bytes.Equal(whole, before) }
}

// edges are values about each power of two.
func edges() []uint64 {
	out := []uint64{0, math.MaxUint64}
	for i := range 64 {
		p := uint64(1) << i
		out = append(out, p-1, p, p+1)
	}
	return out
}

// P1.1

func TestWords(t *testing.T) {
	for _, c := range []struct {
		b    []byte
		want []uint64
	}{
		{nil, nil},
		{[]byte{}, nil},
		{[]byte{0}, []uint64{0}},
		{[]byte{1, 2}, []uint64{513}},
		{[]byte{1, 2, 3, 4, 5, 6, 7, 8}, []uint64{0x0807060504030201}},
		{[]byte{1, 2, 3, 4, 5, 6, 7, 8, 9}, []uint64{0x0807060504030201, 9}},
		{[]byte{255, 255, 255, 255, 255, 255, 255, 255}, []uint64{math.MaxUint64}},
		{make([]byte, 9), []uint64{0, 0}},
	} {
		if got := Words(c.b); !slices.Equal(got, c.want) {
			t.Errorf("Words(%v): %v, want %v", c.b, got, c.want)
		}
	}
}

func TestWordsOfEveryLength(t *testing.T) {
	for n := range 70 {
		b := patterned(n)
		full := append(slices.Clone(b), make([]byte, (8-n%8)%8)...)
		var want []uint64
		for ; len(full) > 0; full = full[8:] {
			want = append(want, binary.LittleEndian.Uint64(full))
		}
		if got := Words(b); !slices.Equal(got, want) {
			t.Errorf("Words of %d bytes: %x, want %x", n, got, want)
		}
	}
}

func TestBytes(t *testing.T) {
	for _, c := range []struct {
		w    []uint64
		n    int
		want []byte
	}{
		{nil, 0, nil},
		{[]uint64{0}, 1, []byte{0}},
		{[]uint64{513}, 2, []byte{1, 2}},
		{[]uint64{513}, 8, []byte{1, 2, 0, 0, 0, 0, 0, 0}},
		{[]uint64{513, 7}, 9, []byte{1, 2, 0, 0, 0, 0, 0, 0, 7}},
		{[]uint64{math.MaxUint64, 255}, 9, []byte{255, 255, 255, 255, 255, 255, 255, 255, 255}},
		{[]uint64{0, 0}, 16, make([]byte, 16)},
	} {
		got, err := Bytes(c.w, c.n)
		if err != nil || !bytes.Equal(got, c.want) {
			t.Errorf("Bytes(%v, %d): %v %v, want %v", c.w, c.n, got, err, c.want)
		}
	}
}

func TestBytesRefused(t *testing.T) {
	for _, c := range []struct {
		w []uint64
		n int
	}{
		{nil, -1},
		{nil, 1},
		{nil, math.MinInt},
		{nil, math.MaxInt},
		{[]uint64{5}, -1},
		{[]uint64{5}, math.MinInt},
		{[]uint64{5}, 9},
		{[]uint64{5}, math.MaxInt},
		{[]uint64{5}, math.MaxInt - 6},
		{[]uint64{0}, 0}, // a whole word behind, of noughts too
		{[]uint64{5}, 0},
		{[]uint64{513, 0}, 8},
		{[]uint64{513, 0}, 2},
		{[]uint64{1, 2, 0}, 9},
	} {
		wantBad(t, c.w, c.n)
	}
}

func TestBytesBehindTheLast(t *testing.T) {
	for n := 1; n < 8; n++ {
		for bit := 8 * n; bit < 64; bit++ {
			wantBad(t, []uint64{math.MaxUint64, 1 << bit}, 8+n)
		}
		if got, err := Bytes([]uint64{1<<(8*n) - 1}, n); err != nil || len(got) != n {
			t.Errorf("the highest word of %d bytes: %v %v", n, got, err)
		}
	}
}

func wantBad(t *testing.T, w []uint64, n int) {
	t.Helper()
	if got, err := Bytes(w, n); err != api.ErrBad || len(got) != 0 {
		t.Errorf("Bytes(%x, %d): %v %v, want ErrBad alone", w, n, got, err)
	}
}

// P1.2

func TestVarint(t *testing.T) {
	for _, c := range []struct {
		v    uint64
		want []byte
	}{
		{0, []byte{0}},
		{1, []byte{1}},
		{127, []byte{127}},
		{128, []byte{0x80, 1}},
		{300, []byte{0xac, 2}},
		{16383, []byte{255, 127}},
		{16384, []byte{0x80, 0x80, 1}},
		{1<<63 - 1, []byte{255, 255, 255, 255, 255, 255, 255, 255, 127}},
		{1 << 63, []byte{128, 128, 128, 128, 128, 128, 128, 128, 128, 1}},
		{math.MaxUint64, []byte{255, 255, 255, 255, 255, 255, 255, 255, 255, 1}},
	} {
		if got := Varint(c.v); !bytes.Equal(got, c.want) {
			t.Errorf("Varint(%d): %x, want %x", c.v, got, c.want)
		}
	}
}

func TestVarintAtEveryEdge(t *testing.T) {
	for _, v := range edges() {
		b := Varint(v)
		if want := binary.AppendUvarint(nil, v); !bytes.Equal(b, want) {
			t.Errorf("Varint(%d): %x, want %x", v, b, want)
		}
		for _, behind := range []string{"", "\x00", "\x80", "\xff\xff"} {
			if got, n := Unvarint(append(slices.Clone(b), behind...)); got != v || n != len(b) {
				t.Errorf("Unvarint(%x, then %x): %d, %d, want %d, %d", b, behind, got, n, v, len(b))
			}
		}
		for n := range b {
			if got, k := Unvarint(b[:n]); got != 0 || k != 0 {
				t.Errorf("Unvarint(%x): %d, %d, want none", b[:n], got, k)
			}
		}
	}
}

func TestUnvarintOfNone(t *testing.T) {
	nine := bytes.Repeat([]byte{0x80}, 9)
	full := bytes.Repeat([]byte{0xff}, 9)
	for _, b := range [][]byte{
		nil,
		{},
		{0x80, 0},                       // a last group of 0
		{0xff, 0},                       // also behind another value
		{0x80, 0x80, 0},                 //
		{0x80, 0, 1},                    //
		append(slices.Clone(nine), 0),   // and as the tenth
		append(slices.Clone(nine), 2),   // 2^64
		append(slices.Clone(nine), 3),   // 2^64 and 2^63
		append(slices.Clone(full), 2),   //
		append(slices.Clone(full), 127), //
		append(slices.Clone(nine), 0x80),
		append(slices.Clone(nine), 0x80, 1), // eleven groups
		append(slices.Clone(nine), 0x81, 0),
		append(slices.Clone(nine), 0x80, 0x80, 1), // twelve
		append(bytes.Repeat([]byte{0xff}, 40), 1),
		bytes.Repeat([]byte{0xff}, 40),
	} {
		if v, n := Unvarint(b); v != 0 || n != 0 {
			t.Errorf("Unvarint(%x): %d, %d, want none", b, v, n)
		}
	}
}

// Whatever is read lays down the very bytes that it was read from: there is one varint a value.
func TestUnvarintOfAllShortOnes(t *testing.T) {
	for a := range 256 {
		for b := range 256 {
			for _, c := range []byte{0, 1, 127, 128, 255} {
				in := []byte{byte(a), byte(b), c}
				v, n := Unvarint(in)
				if n > 0 && !bytes.Equal(Varint(v), in[:n]) {
					t.Fatalf("Unvarint(%x): %d, %d, whose varint is %x", in, v, n, Varint(v))
				}
				none := a >= 128 && (b == 0 || b >= 128 && (c == 0 || c >= 128))
				if none != (n == 0) {
					t.Fatalf("Unvarint(%x): %d, %d", in, v, n)
				}
			}
		}
	}
}

func TestText(t *testing.T) {
	long := strings.Repeat("x", 300)
	for _, c := range []struct{ s, want string }{
		{"", "\x00"},
		{"ab", "\x02ab"},
		{"\x00", "\x01\x00"},
		{"\xff\xfe", "\x02\xff\xfe"},
		{"é", "\x02\xc3\xa9"}, // bytes are counted, not runes
		{long[:127], "\x7f" + long[:127]},
		{long[:128], "\x80\x01" + long[:128]},
		{long, "\xac\x02" + long},
	} {
		if got := Text(c.s); string(got) != c.want {
			t.Errorf("Text(%q): %q, want %q", c.s, got, c.want)
		}
	}
}

func TestUntext(t *testing.T) {
	for _, c := range []struct {
		b, s string
		n    int
	}{
		{"\x00", "", 1},
		{"\x00abc", "", 1},
		{"\x02ab", "ab", 3},
		{"\x02abc", "ab", 3},
		{"\x02\xff\x80\x01", "\xff\x80", 3},
	} {
		if s, n, err := Untext([]byte(c.b)); s != c.s || n != c.n || err != nil {
			t.Errorf("Untext(%q): %q %d %v, want %q %d", c.b, s, n, err, c.s, c.n)
		}
	}
}

func TestUntextRefused(t *testing.T) {
	huge := func(v uint64) string { return string(Varint(v)) + "abc" }
	for _, b := range []string{
		"",
		"\x01",
		"\x03ab",
		"\x80",
		"\x80\x00",
		"\x82\x00ab",
		huge(4),
		huge(1 << 31),
		huge(1 << 32),
		huge(1<<32 + 1),
		huge(1<<63 - 1),
		huge(1 << 63),
		huge(1<<63 + 1),
		huge(math.MaxUint64),
		"\xff\xff\xff\xff\xff\xff\xff\xff\xff\x02abc",
	} {
		if s, n, err := Untext([]byte(b)); s != "" || n != 0 || err != api.ErrBad {
			t.Errorf("Untext(%q): %q %d %v, want ErrBad alone", b, s, n, err)
		}
	}
}

// P1.3

func TestTurn(t *testing.T) {
	for _, c := range []struct{ w, want uint64 }{
		{0, 0},
		{1, 1 << 56},
		{0x80, 0x80 << 56},
		{0x0102030405060708, 0x0807060504030201},
		{0xfedcba9876543210, 0x1032547698badcfe},
		{math.MaxUint64, math.MaxUint64},
	} {
		if got := Turn(c.w); got != c.want {
			t.Errorf("Turn(%x): %x, want %x", c.w, got, c.want)
		}
	}
	for _, w := range edges() {
		if got := Turn(w); got != mathbits.ReverseBytes64(w) {
			t.Errorf("Turn(%x): %x", w, got)
		}
	}
}

// P1.4

func TestThereAndBack(t *testing.T) {
	for n := range 70 {
		for _, b := range [][]byte{patterned(n), make([]byte, n), bytes.Repeat([]byte{255}, n)} {
			if got, err := Bytes(Words(b), len(b)); err != nil || !bytes.Equal(got, b) {
				t.Errorf("Bytes(Words(%x)): %x %v", b, got, err)
			}
		}
	}
	for _, w := range edges() {
		if got := Turn(Turn(w)); got != w {
			t.Errorf("Turn of Turn of %x: %x", w, got)
		}
	}
	for _, n := range []int{0, 1, 2, 127, 128, 129, 255, 256, 16383, 16384, 70000} {
		s := string(patterned(n))
		laid := Text(s)
		for _, behind := range []string{"", "\x00", "\x80", "\xff more"} {
			got, k, err := Untext(append(slices.Clone(laid), behind...))
			if got != s || k != len(laid) || err != nil {
				t.Errorf("Untext(Text of %d bytes), %q behind: %d bytes, %d, %v", n, behind, len(got), k, err)
			}
		}
	}
}

func TestWhatIsHandedInStays(t *testing.T) {
	for n := range 20 {
		b, same := roomy(patterned(n))
		Words(b)
		Unvarint(b)
		Untext(b)
		text, sameText := roomy(Text(string(b)))
		Untext(text)
		if !same() || !sameText() {
			t.Errorf("%d bytes handed in were changed", n)
		}
	}
	words := []uint64{1, 2, 3, 77}
	Bytes(words[:3], 24)
	Bytes(words[:3], 17)
	Bytes(words[:3], 3)
	if !slices.Equal(words, []uint64{1, 2, 3, 77}) {
		t.Errorf("words handed in were changed: %v", words)
	}
}

func TestWhatIsAnsweredIsNew(t *testing.T) {
	b := patterned(16)
	w := Words(b)
	wants := slices.Clone(w)
	back, _ := Bytes(w, 16)
	laid := Text("abc")
	s, _, _ := Untext(laid)
	clear(b)
	if !slices.Equal(w, wants) {
		t.Error("Words kept what it was given")
	}
	clear(w)
	if !bytes.Equal(back, patterned(16)) {
		t.Error("Bytes kept what it was given")
	}
	clear(laid)
	if s != "abc" {
		t.Error("Untext kept what it was given")
	}
	for _, v := range []uint64{0, 1, 300, math.MaxUint64} {
		first := Varint(v)
		clear(first[:cap(first)])
		if got, n := Unvarint(Varint(v)); got != v || n == 0 {
			t.Errorf("Varint(%d) answered the same memory twice", v)
		}
	}
	if first := Text(""); string(append(first[:0], 9)) != "\x09" || string(Text("")) != "\x00" {
		t.Error("Text answered the same memory twice")
	}
}

func FuzzUntext(f *testing.F) {
	f.Add([]byte("\x02ab"))
	f.Add([]byte("\x80\x00"))
	f.Fuzz(func(t *testing.T, b []byte) {
		s, n, err := Untext(b)
		if err == nil && !bytes.Equal(Text(s), b[:n]) {
			t.Errorf("Untext(%x): %q, %d, whose text is %x", b, s, n, Text(s))
		}
		if err != nil && (err != api.ErrBad || s != "" || n != 0) {
			t.Errorf("Untext(%x): %q, %d beside %v", b, s, n, err)
		}
	})
}
