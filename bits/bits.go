// Package bits is layer 1: see shared/doc/01-bits.md.
package bits

// Low32: the lowest 32 bits.
func Low32(w uint64) uint32 { return uint32(w) }

// Sign32: the lowest 32 bits, signed.
func Sign32(w uint64) int32 { return int32(Low32(w)) }

// Wide32: a signed number's word.
func Wide32(n int32) uint64 { return uint64(int64(n)) }

// Zig: the zigzag.
func Zig(n int64) uint64 {
	// A signed shift fills with the sign: all ones below 0, which turns 2 n into -2 n - 1.
	return uint64(n)<<1 ^ uint64(n>>63)
}

// Zag: whose zigzag is it?
func Zag(w uint64) int64 {
	// The lowest bit is the sign: it is shifted up, and spread down over all bits.
	return int64(w>>1) ^ int64(w<<63)>>63
}

// Zag32: likewise, of 32 bits.
func Zag32(w uint64) int32 {
	low := Low32(w)
	return int32(low>>1) ^ int32(low<<31)>>31
}

// Len: how many pieces of 7 bits.
func Len(w uint64) int {
	n := 1
	for w >>= 7; w != 0; w >>= 7 {
		n++
	}
	return n
}

// Little: the lowest bytes, the lowest first.
func Little(w uint64, n int) []byte {
	b := make([]byte, min(max(n, 0), 8))
	for i := range b {
		b[i] = byte(w >> (8 * i))
	}
	return b
}

// Word of bytes.
func Word(b []byte) uint64 {
	w := uint64(0)
	for i, c := range b[:min(len(b), 8)] {
		w |= uint64(c) << (8 * i)
	}
	return w
}

// Bit of a word.
func Bit(w uint64, i int) bool {
	// A shift by less than 0 would panic.
	return i >= 0 && i < 64 && w>>i&1 == 1
}
