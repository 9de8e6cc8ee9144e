// Package bits is words and bytes: see DOC.md, chapter 1.
package bits

import "dolmen/api"

const (
	wordBytes = 8   // bytes of a word
	maxGroups = 10  // groups of the longest varint
	more      = 128 // of a group: another one stands behind it
)

// Words is bytes as words.
func Words(b []byte) []uint64 {
	out := make([]uint64, 0, wordsFor(len(b)))
	for at := 0; at < len(b); at += wordBytes {
		out = append(out, firstWord(b[at:]))
	}
	return out
}

// wordsFor is how many words n bytes take.
func wordsFor(n int) int { return (n + wordBytes - 1) / wordBytes }

// firstWord is the word that b begins with. It falls through from the last byte that is left to the first, so that a cut-off word gets its noughts by where it enters.
func firstWord(b []byte) uint64 {
	var w uint64
	switch min(len(b), wordBytes) {
	case 8:
		w |= uint64(b[7]) << 56
		fallthrough
	case 7:
		w |= uint64(b[6]) << 48
		fallthrough
	case 6:
		w |= uint64(b[5]) << 40
		fallthrough
	case 5:
		w |= uint64(b[4]) << 32
		fallthrough
	case 4:
		w |= uint64(b[3]) << 24
		fallthrough
	case 3:
		w |= uint64(b[2]) << 16
		fallthrough
	case 2:
		w |= uint64(b[1]) << 8
		fallthrough
	case 1:
		w |= uint64(b[0])
	}
	return w
}

// Bytes is words as bytes.
func Bytes(w []uint64, n int) ([]byte, error) {
	// The range first: wordsFor has room to round up only within it.
	if n < 0 || n > wordBytes*len(w) || wordsFor(n) != len(w) {
		return nil, api.ErrBad
	}
	if rest := n % wordBytes; rest != 0 && w[len(w)-1]>>(8*rest) != 0 {
		return nil, api.ErrBad
	}
	out := make([]byte, n)
	for i := range out {
		out[i] = byte(w[i/wordBytes] >> (8 * (i % wordBytes)))
	}
	return out, nil
}

// Varint lays a value.
func Varint(v uint64) []byte {
	out := make([]byte, groupsOf(v))
	switch len(out) {
	case 10:
		out[9] = byte(v>>63) | more
		fallthrough
	case 9:
		out[8] = byte(v>>56) | more
		fallthrough
	case 8:
		out[7] = byte(v>>49) | more
		fallthrough
	case 7:
		out[6] = byte(v>>42) | more
		fallthrough
	case 6:
		out[5] = byte(v>>35) | more
		fallthrough
	case 5:
		out[4] = byte(v>>28) | more
		fallthrough
	case 4:
		out[3] = byte(v>>21) | more
		fallthrough
	case 3:
		out[2] = byte(v>>14) | more
		fallthrough
	case 2:
		out[1] = byte(v>>7) | more
		fallthrough
	case 1:
		out[0] = byte(v) | more
	}
	out[len(out)-1] &^= more
	return out
}

// groupsOf is how many groups v takes; 0 takes one too.
func groupsOf(v uint64) int {
	n := 1
	for ; v >= more; v >>= 7 {
		n++
	}
	return n
}

// Unvarint reads one.
func Unvarint(b []byte) (uint64, int) {
	n := varintLen(b)
	return joined(b[:n]), n
}

// varintLen is how many bytes the varint has that b begins with; 0, if it begins with none.
func varintLen(b []byte) int {
	last := 0
	for last < len(b) && last < maxGroups && b[last] >= more {
		last++
	}
	switch {
	case last == len(b), last == maxGroups:
		return 0
	case last > 0 && b[last] == 0: // fewer groups say the same
		return 0
	case last == maxGroups-1 && b[last] > 1: // nine groups leave one bit of a word
		return 0
	}
	return last + 1
}

// joined is the value of all of b's groups; 0 of none.
func joined(b []byte) uint64 {
	var v uint64
	switch len(b) {
	case 10:
		v = v<<7 | uint64(b[9]&^more)
		fallthrough
	case 9:
		v = v<<7 | uint64(b[8]&^more)
		fallthrough
	case 8:
		v = v<<7 | uint64(b[7]&^more)
		fallthrough
	case 7:
		v = v<<7 | uint64(b[6]&^more)
		fallthrough
	case 6:
		v = v<<7 | uint64(b[5]&^more)
		fallthrough
	case 5:
		v = v<<7 | uint64(b[4]&^more)
		fallthrough
	case 4:
		v = v<<7 | uint64(b[3]&^more)
		fallthrough
	case 3:
		v = v<<7 | uint64(b[2]&^more)
		fallthrough
	case 2:
		v = v<<7 | uint64(b[1]&^more)
		fallthrough
	case 1:
		v = v<<7 | uint64(b[0]&^more)
	}
	return v
}

// Text lays a text.
func Text(s string) []byte {
	return append(Varint(uint64(len(s))), s...)
}

// Untext reads one.
func Untext(b []byte) (string, int, error) {
	size, at := Unvarint(b)
	// Held against each other as uint64: a size may be more than an int holds.
	if at == 0 || size > uint64(len(b)-at) {
		return "", 0, api.ErrBad
	}
	end := at + int(size)
	return string(b[at:end]), end, nil
}

// Turn is a word the other way round.
func Turn(w uint64) uint64 {
	var out uint64
	for range wordBytes {
		out = out<<8 | w&255
		w >>= 8
	}
	return out
}
