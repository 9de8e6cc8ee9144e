package entry

import (
	"bytes"
	"encoding/binary"
	"hash/crc32"
	"reflect"
	"slices"
	"testing"

	"dolmen/api"
)

// dice are thrown alike in every run.
type dice uint64

func (d *dice) below(n int) int {
	*d = *d*6364136223846793005 + 1442695040888963407
	return int(*d >> 33 % dice(n))
}

// edge is mostly a number from least to most, or one of its edges.
func (d *dice) edge(least, most int) int {
	switch d.below(8) {
	case 0:
		return least
	case 1:
		return most
	case 2:
		return least - 1
	case 3:
		return most + 1
	}
	return least + d.below(most-least+1)
}

// text is some bytes, about as many as may be.
func (d *dice) text(most int) []byte {
	b := make([]byte, d.below(most+2))
	for i := range b {
		b[i] = byte(d.below(256))
	}
	return b
}

// plainWords lays an entry, whether it may be or not, with the library's varints and sums.
func plainWords(e Entry) []uint64 {
	b := binary.AppendUvarint(nil, uint64(e.Epoch))
	switch e.Kind {
	case KWrite:
		b = binary.AppendUvarint(b, uint64(e.Off))
		b = binary.AppendUvarint(b, uint64(len(e.Data)))
		b = append(b, e.Data...)
	case KSize:
		b = binary.AppendUvarint(b, uint64(e.Off))
	case KName:
		b = binary.AppendUvarint(b, uint64(len(e.Name)))
		b = append(b, e.Name...)
		b = binary.AppendUvarint(b, uint64(e.Ino))
	case KGone:
		b = binary.AppendUvarint(b, uint64(len(e.Name)))
		b = append(b, e.Name...)
	case KSnap:
		b = binary.AppendUvarint(b, uint64(e.Ino))
	}
	for len(b)%8 != 0 {
		b = append(b, 0)
	}
	return plainSealed(byte(e.Kind), b)
}

// plainSealed sets the first word ahead of bytes that are whole words.
func plainSealed(kind byte, b []byte) []uint64 {
	var out []uint64
	first := []byte{kind, 165}
	first = binary.LittleEndian.AppendUint16(first, uint16(len(b)/8))
	first = binary.LittleEndian.AppendUint32(first, crc32.ChecksumIEEE(b))
	for all := append(first, b...); len(all) > 0; all = all[8:] {
		out = append(out, binary.LittleEndian.Uint64(all))
	}
	return out
}

// plainCheck tells whether an entry may be.
func plainCheck(e Entry) bool {
	if e.Epoch < 1 || e.Epoch > api.MaxEpoch {
		return false
	}
	off := e.Off >= 0 && e.Off <= 2000
	name := len(e.Name) >= 1 && len(e.Name) <= 12
	ino := e.Ino >= 1 && e.Ino <= 1<<30
	switch e.Kind {
	case KWrite:
		return off && len(e.Data) > 0 && e.Off+len(e.Data) <= 2000
	case KSize:
		return off
	case KName:
		return name && ino
	case KGone:
		return name
	case KSnap:
		return ino
	}
	return false
}

// any is an entry of any kind, often at the edges of what may be, and sometimes beyond.
func (d *dice) any() Entry {
	e := Entry{Kind: 1 + d.below(5), Epoch: d.edge(1, api.MaxEpoch)}
	switch e.Kind {
	case KWrite:
		e.Off = d.edge(0, api.MaxFile)
		e.Data = d.text(40)
		if d.below(4) == 0 && e.Off >= 0 && e.Off < api.MaxFile {
			e.Data = bytes.Repeat([]byte{byte(d.below(256))}, api.MaxFile-e.Off+d.below(3)-1)
		}
	case KSize:
		e.Off = d.edge(0, api.MaxFile)
	case KName, KGone:
		e.Name = string(d.text(api.MaxName))
		if e.Kind == KName {
			e.Ino = d.edge(1, 1<<30)
		}
	case KSnap:
		e.Ino = d.edge(1, 1<<30)
	}
	return e
}

// TestPlainWords: Check, Encode and Decode against the library's means.
func TestPlainWords(t *testing.T) {
	d := dice(12)
	for range 20000 {
		e := d.any()
		may, words := plainCheck(e), plainWords(e)
		if (Check(e) == nil) != may {
			t.Fatalf("P12.1: Check of %v: %v", e, Check(e))
		}
		w, err := Encode(e)
		if (err == nil) != may || may && !slices.Equal(w, words) {
			t.Fatalf("P12.2: Encode of %v: %x, %v", e, w, err)
		}
		got, n, err := Decode(words)
		if (err == nil) != may || !may && (n != 0 || !reflect.DeepEqual(got, Entry{})) {
			t.Fatalf("P12.2: Decode of %v: %v, %d, %v", e, got, n, err)
		}
		if may && (!Same(got, e) || n != len(words)) {
			t.Fatalf("P12.3: Decode of %v: %v, %d", e, got, n)
		}
	}
}

// TestPlainTaken: words near those of an entry, with the right sum: what Decode takes of them, encoded, is what it took.
func TestPlainTaken(t *testing.T) {
	d := dice(34)
	taken := 0
	for range 40000 {
		b := make([]byte, 8*(1+d.below(3)))
		for i := range 1 + d.below(len(b)) {
			b[i] = byte(d.below(1 << (1 + d.below(8))))
		}
		w := plainSealed(byte(d.below(7)), b)
		e, n, err := Decode(append(slices.Clone(w), 1, 2))
		if err != nil {
			if err != error(api.ErrBad) || n != 0 || !reflect.DeepEqual(e, Entry{}) {
				t.Fatalf("P12.2: Decode of %x: %v, %d, %v", w, e, n, err)
			}
			continue
		}
		taken++
		if again, err := Encode(e); err != nil || n != len(w) || !slices.Equal(again, w) {
			t.Fatalf("P12.3: Decode of %x: %v, %d; encoded: %x, %v", w, e, n, again, err)
		}
	}
	if taken < 500 {
		t.Errorf("too few were taken to tell: %d", taken)
	}
}

// TestPlainLogs: logs of many, torn at any place.
func TestPlainLogs(t *testing.T) {
	d := dice(56)
	for range 300 {
		var l []Entry
		var log []uint64
		var ends []int
		for range d.below(30) {
			if e := d.any(); plainCheck(e) {
				l, log = append(l, e), append(log, plainWords(e)...)
				ends = append(ends, len(log))
			}
		}
		whole, at := len(l), len(log)
		if len(log) > 0 && d.below(3) > 0 {
			torn := d.below(len(log))
			log[torn] ^= 1 << d.below(64)
			for whole > 0 && ends[whole-1] > torn {
				whole--
			}
			at = 0
			if whole > 0 {
				at = ends[whole-1]
			}
		}
		got, n := Scan(log)
		if len(got) != whole || n != at || !slices.EqualFunc(got, l[:whole], Same) {
			t.Fatalf("P12.2: Scan: %d entries, %d words; want %d, %d", len(got), n, whole, at)
		}
	}
}
