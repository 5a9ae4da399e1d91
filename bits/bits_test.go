package bits_test

import (
	"bytes"
	"math"
	"math/big"
	"testing"

	"darning/bits"
)

// words are those around each power of two, what lies opposite, and rows of mixed bits.
func words() []uint64 {
	l := []uint64{0, math.MaxUint64}
	for i := range 64 {
		p := uint64(1) << i
		l = append(l, p-1, p, p+1, -p, ^p)
	}
	w := uint64(1)
	for range 200 {
		w = w*6364136223846793005 + 1442695040888963407
		l = append(l, w, w>>32)
	}
	return l
}

// power is 2 to n.
func power(n uint) *big.Int { return new(big.Int).Lsh(big.NewInt(1), n) }

// modulo is n modulo 2 to size, from 0 on.
func modulo(n *big.Int, size uint) *big.Int { return new(big.Int).Mod(n, power(size)) }

// signed is the signed number of so many bits whose word is w modulo 2 to size.
func signed(w uint64, size uint) *big.Int {
	n := modulo(new(big.Int).SetUint64(w), size)
	if n.Cmp(power(size-1)) >= 0 {
		n.Sub(n, power(size))
	}
	return n
}

// zigzag is the document's: 2 n, if n isn't below 0, else -2 n - 1.
func zigzag(n *big.Int) *big.Int {
	if n.Sign() >= 0 {
		return new(big.Int).Mul(n, big.NewInt(2))
	}
	m := new(big.Int).Mul(n, big.NewInt(-2))
	return m.Sub(m, big.NewInt(1))
}

// isWord tells whether the word is the number.
func isWord(w uint64, n *big.Int) bool { return new(big.Int).SetUint64(w).Cmp(n) == 0 }

// P1.1: Low32, Sign32, Wide32.
func TestOf32Bits(t *testing.T) {
	for _, w := range words() {
		if !isWord(uint64(bits.Low32(w)), modulo(new(big.Int).SetUint64(w), 32)) {
			t.Errorf("Low32 of %d: %d", w, bits.Low32(w))
		}
		if signed(w, 32).Cmp(big.NewInt(int64(bits.Sign32(w)))) != 0 {
			t.Errorf("Sign32 of %d: %d", w, bits.Sign32(w))
		}
		n := int32(signed(w, 32).Int64())
		if !isWord(bits.Wide32(n), modulo(big.NewInt(int64(n)), 64)) {
			t.Errorf("Wide32 of %d: %d", n, bits.Wide32(n))
		}
	}
}

// P1.1: Low32, Sign32, Wide32 at their ends.
func TestOf32BitsEnds(t *testing.T) {
	for _, c := range []struct {
		w    uint64
		low  uint32
		sign int32
	}{
		{0, 0, 0},
		{1<<31 - 1, 1<<31 - 1, math.MaxInt32},
		{1 << 31, 1 << 31, math.MinInt32},
		{1<<32 - 1, 1<<32 - 1, -1},
		{1 << 32, 0, 0},
		{1 << 63, 0, 0},
		{math.MaxUint64, 1<<32 - 1, -1},
	} {
		if bits.Low32(c.w) != c.low || bits.Sign32(c.w) != c.sign {
			t.Errorf("Low32 and Sign32 of %d: %d, %d", c.w, bits.Low32(c.w), bits.Sign32(c.w))
		}
	}
	for n, w := range map[int32]uint64{0: 0, 1: 1, -1: math.MaxUint64, math.MaxInt32: 1<<31 - 1, math.MinInt32: 1<<64 - 1<<31} {
		if bits.Wide32(n) != w {
			t.Errorf("Wide32 of %d: %d", n, bits.Wide32(n))
		}
	}
}

// P1.1: Zig, Zag, Zag32.
func TestZigzags(t *testing.T) {
	for _, w := range words() {
		n := signed(w, 64)
		if !isWord(bits.Zig(n.Int64()), zigzag(n)) {
			t.Errorf("Zig of %d: %d", n, bits.Zig(n.Int64()))
		}
		if !isWord(w, zigzag(big.NewInt(bits.Zag(w)))) {
			t.Errorf("Zag of %d: %d", w, bits.Zag(w))
		}
		if !isWord(w%(1<<32), zigzag(big.NewInt(int64(bits.Zag32(w))))) {
			t.Errorf("Zag32 of %d: %d", w, bits.Zag32(w))
		}
	}
}

// P1.1: Zig, Zag, Zag32 at their ends, and the chapter's examples.
func TestZigzagsEnds(t *testing.T) {
	for n, w := range map[int64]uint64{0: 0, -1: 1, 1: 2, -2: 3, math.MaxInt64: math.MaxUint64 - 1, math.MinInt64: math.MaxUint64} {
		if bits.Zig(n) != w || bits.Zag(w) != n {
			t.Errorf("Zig of %d: %d; Zag of %d: %d", n, bits.Zig(n), w, bits.Zag(w))
		}
	}
	for w, n := range map[uint64]int32{
		0: 0, 1: -1, 2: 1, 1<<32 - 2: math.MaxInt32, 1<<32 - 1: math.MinInt32,
		1 << 32: 0, 1<<32 + 1: -1, 1 << 63: 0, math.MaxUint64: math.MinInt32,
	} {
		if bits.Zag32(w) != n {
			t.Errorf("Zag32 of %d: %d", w, bits.Zag32(w))
		}
	}
}

// P1.2: Len is the least number from 1 on by which 128 to it is above the word.
func TestLen(t *testing.T) {
	for _, w := range words() {
		n := uint(1)
		for power(7*n).Cmp(new(big.Int).SetUint64(w)) <= 0 {
			n++
		}
		if bits.Len(w) != int(n) {
			t.Errorf("Len of %d: %d", w, bits.Len(w))
		}
	}
	for w, n := range map[uint64]int{0: 1, 1: 1, 127: 1, 128: 2, 1<<14 - 1: 2, 1 << 14: 3, 1<<63 - 1: 9, 1 << 63: 10, math.MaxUint64: 10} {
		if bits.Len(w) != n {
			t.Errorf("Len of %d: %d", w, bits.Len(w))
		}
	}
}

// lowest is the document's Little: the word is divided by 256 again and again.
func lowest(w uint64, n int) []byte {
	b := []byte{}
	for len(b) < min(n, 8) {
		b = append(b, byte(w%256))
		w /= 256
	}
	return b
}

// P1.2: Little, with n below 0 and above 8.
func TestLittle(t *testing.T) {
	sizes := []int{math.MinInt, -9, -1, 0, 1, 2, 3, 4, 5, 6, 7, 8, 9, 100, math.MaxInt}
	for _, w := range words() {
		for _, n := range sizes {
			if got := bits.Little(w, n); !bytes.Equal(got, lowest(w, n)) {
				t.Errorf("Little of %d, %d: %v", w, n, got)
			}
		}
	}
	if got := bits.Little(0x0102030405060708, 3); !bytes.Equal(got, []byte{8, 7, 6}) {
		t.Errorf("the lowest three: %v", got)
	}
}

// P1.2: what Little tells is the caller's.
func TestLittleIsNew(t *testing.T) {
	a := bits.Little(513, 2)
	a[0] = 9
	if b := bits.Little(513, 2); !bytes.Equal(b, []byte{1, 2}) || a[0] != 9 {
		t.Errorf("told again: %v", b)
	}
}

// P1.2: Word, of no bytes, and of more than eight.
func TestWord(t *testing.T) {
	for _, c := range []struct {
		b []byte
		w uint64
	}{
		{nil, 0},
		{[]byte{}, 0},
		{[]byte{0}, 0},
		{[]byte{255}, 255},
		{[]byte{1, 2}, 513},
		{[]byte{0, 0, 0, 1}, 1 << 24},
		{[]byte{0, 0, 0, 128}, 1 << 31},
		{[]byte{0, 0, 0, 0, 1}, 1 << 32},
		{[]byte{8, 7, 6, 5, 4, 3, 2}, 0x02030405060708},
		{[]byte{8, 7, 6, 5, 4, 3, 2, 1}, 0x0102030405060708},
		{[]byte{8, 7, 6, 5, 4, 3, 2, 1, 255}, 0x0102030405060708},
		{[]byte{0, 0, 0, 0, 0, 0, 0, 128, 9, 9}, 1 << 63},
		{bytes.Repeat([]byte{255}, 100), math.MaxUint64},
	} {
		before := bytes.Clone(c.b)
		if got := bits.Word(c.b); got != c.w {
			t.Errorf("Word of %v: %d", c.b, got)
		}
		if !bytes.Equal(c.b, before) {
			t.Errorf("Word changed %v to %v", before, c.b)
		}
	}
}

// P1.2: the word of a word's lowest bytes is the word modulo 256 to their number.
func TestWordOfLittle(t *testing.T) {
	for _, w := range words() {
		for n := range 9 {
			got := bits.Word(bits.Little(w, n))
			if !isWord(got, modulo(new(big.Int).SetUint64(w), uint(8*n))) {
				t.Errorf("Word of the lowest %d of %d: %d", n, w, got)
			}
		}
	}
}

// P1.2: Bit, with i outside 0 to 63.
func TestBit(t *testing.T) {
	for _, w := range words() {
		n := new(big.Int).SetUint64(w)
		for i := range 64 {
			if bits.Bit(w, i) != (n.Bit(i) == 1) {
				t.Errorf("Bit %d of %d: %t", i, w, bits.Bit(w, i))
			}
		}
		for _, i := range []int{math.MinInt, -64, -63, -1, 64, 65, 127, 128, 256, math.MaxInt} {
			if bits.Bit(w, i) {
				t.Errorf("Bit %d of %d is told", i, w)
			}
		}
	}
}

// P1.3: Zig and Zag lead back to each other; Sign32 of Wide32 is the number itself.
func TestBackAgain(t *testing.T) {
	for _, w := range words() {
		if got := bits.Zig(bits.Zag(w)); got != w {
			t.Errorf("Zig of Zag of %d: %d", w, got)
		}
		n := signed(w, 64).Int64()
		if got := bits.Zag(bits.Zig(n)); got != n {
			t.Errorf("Zag of Zig of %d: %d", n, got)
		}
		m := int32(signed(w, 32).Int64())
		if got := bits.Sign32(bits.Wide32(m)); got != m {
			t.Errorf("Sign32 of Wide32 of %d: %d", m, got)
		}
		if got := bits.Zag32(bits.Zig(int64(m))); got != m {
			t.Errorf("Zag32 of Zig of %d: %d", m, got)
		}
	}
}
