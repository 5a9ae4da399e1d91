package scalar_test

import (
	"bytes"
	"math"
	"math/big"
	"slices"
	"testing"

	"darning/api"
	"darning/bits"
	"darning/kind"
	"darning/scalar"
	"darning/varint"
)

// varints are the kinds of wire type 0, fours of 5, eights of 1: as the chapter of kinds lists them.
func varints() []int { return []int{1, 2, 3, 4, 5, 6, 7, 8} }
func fours() []int   { return []int{9, 10, 11} }
func eights() []int  { return []int{12, 13, 14} }

// numbers are all numbers' kinds.
func numbers() []int { return slices.Concat(varints(), fours(), eights()) }

// others are no numbers' kinds: texts, messages, and numbers that are no kind; some that are 2^8, 2^16 or 2^32 away from one.
func others() []int {
	l := []int{15, 16, 17, math.MinInt, math.MinInt + 1, math.MinInt32, -17, -5, -2, -1, 0, math.MaxInt32, math.MaxInt - 1, math.MaxInt}
	for k := 18; k < 300; k++ {
		l = append(l, k)
	}
	for _, k := range numbers() {
		l = append(l, -k, k-256, k+1<<16)
		if high := uint64(1)<<32 + uint64(k); high < math.MaxInt { // of 32 bits, it would go round to a kind
			l = append(l, int(high))
		}
	}
	return l
}

// words are those around all powers of 2, and mixed ones.
func words() []uint64 {
	l := []uint64{7, 9, 100, 300, 0x0123456789abcdef, 0xfedcba9876543210, 0x80000000ffffffff, 0xffffffff80000000, 0xdeadbeef00000000, 0xdeadbeef7fffffff}
	for i := range 64 {
		p := uint64(1) << i
		l = append(l, p-1, p, p+1, -p, ^p, 3*p, p|1<<63, p|1<<32, p|1<<31)
	}
	for w, i := uint64(1), 0; i < 200; i++ {
		w = w*6364136223846793005 + 1442695040888963407
		l = append(l, w, w>>32, w<<32, w>>48)
	}
	return l
}

// high is n bytes c (of 128 or more), and the tail behind them.
func high(n int, c byte, tail ...byte) []byte {
	return append(bytes.Repeat([]byte{c}, n), tail...)
}

// wider is a word's varint of n bytes (of more, where it needs them).
func wider(w uint64, n int) []byte {
	b := pieces(w)
	for len(b) < n {
		b[len(b)-1] |= 128
		b = append(b, 0)
	}
	return b
}

// rows are all rows of at most two bytes from a few, behind up to eleven bytes of 128 or more; and mixed ones of each length to 20.
func rows() [][]byte {
	few := []byte{0, 1, 2, 5, 15, 64, 126, 127, 128, 129, 200, 255}
	tails := [][]byte{{}}
	for _, c := range few {
		tails = append(tails, []byte{c})
		for _, d := range few {
			tails = append(tails, []byte{c, d})
		}
	}
	l := [][]byte{nil}
	for n := range 12 {
		for _, t := range tails {
			l = append(l, high(n, 255, t...), high(n, 128, t...), high(n, 170, t...))
		}
	}
	w := uint64(1)
	for n := range 21 {
		l = append(l, make([]byte, n))
		for range 20 {
			b := make([]byte, n)
			for i := range b {
				w = w*6364136223846793005 + 1442695040888963407
				b[i] = byte(w >> 56)
			}
			l = append(l, b)
		}
	}
	return l
}

// size is how many bytes the values of a number's kind have; 0 of varints.
func size(k int) int {
	switch {
	case slices.Contains(fours(), k):
		return 4
	case slices.Contains(eights(), k):
		return 8
	}
	return 0
}

// isVarint tells by the document whether bytes are just one varint.
func isVarint(b []byte) bool {
	if len(b) < 1 || len(b) > 10 || len(b) == 10 && b[9] > 1 {
		return false
	}
	last := slices.IndexFunc(b, func(c byte) bool { return c < 128 })
	return last == len(b)-1
}

// isValue tells by the document whether they are value's bytes of a number's kind.
func isValue(k int, b []byte) bool {
	if n := size(k); n > 0 {
		return len(b) == n
	}
	return isVarint(b)
}

// sum is the word of value's bytes by the document: each byte times what its place counts.
func sum(k int, b []byte) uint64 {
	step := int64(256)
	if size(k) == 0 {
		step = 128
	}
	all, times := big.NewInt(0), big.NewInt(1)
	for _, c := range b {
		all.Add(all, new(big.Int).Mul(big.NewInt(int64(c)%step), times))
		times.Mul(times, big.NewInt(step))
	}
	return all.Uint64()
}

// canon is the canonical word by the document, reckoned without shifts.
func canon(k int, w uint64) uint64 {
	low := w % 4294967296
	switch k {
	case 1, 8:
		if low >= 2147483648 { // the signed number is low - 2^32; its word 2^64 more
			return low + (math.MaxUint64 - 4294967296 + 1)
		}
		return low
	case 3, 5, 9, 10, 11:
		return low
	case 7:
		if w != 0 {
			return 1
		}
		return 0
	}
	return w
}

// pieces is the minimal varint by division: the lowest seven bits first.
func pieces(w uint64) []byte {
	b := []byte{}
	for w > 127 {
		b = append(b, byte(w%128)+128)
		w /= 128
	}
	return append(b, byte(w))
}

// defined is a word's canonical bytes by the document.
func defined(k int, w uint64) []byte {
	w = canon(k, w)
	n := size(k)
	if n == 0 {
		return pieces(w)
	}
	b := []byte{}
	for range n {
		b = append(b, byte(w%256))
		w /= 256
	}
	return b
}

// P8.1: Read of each kind is as the document defines it, and changes nothing.
func TestRead(t *testing.T) {
	for _, b := range rows() {
		before := bytes.Clone(b)
		for _, k := range numbers() {
			want, code := uint64(0), api.Form
			if isValue(k, b) {
				want, code = canon(k, sum(k, b)), api.Fine
			}
			if w, e := scalar.Read(k, b); w != want || e != code {
				t.Fatalf("Read of %s, %v: %d, %v, not %d, %v", kind.Name(k), b, w, e, want, code)
			}
		}
		if !bytes.Equal(b, before) {
			t.Fatalf("Read changed %v to %v", before, b)
		}
	}
}

// P8.1: Read of the varints of words, minimal and wider ones.
func TestReadVarints(t *testing.T) {
	for _, k := range varints() {
		for _, w := range words() {
			for n := 1; n <= 10; n++ {
				b := wider(w, n)
				if got, e := scalar.Read(k, b); got != canon(k, w) || e != api.Fine {
					t.Fatalf("Read of %s, %v: %d, %v, not %d", kind.Name(k), b, got, e, canon(k, w))
				}
			}
		}
	}
}

// P8.1: Read of varints at ends that are written out.
func TestReadVarintEnds(t *testing.T) {
	for _, c := range []struct {
		k int
		b []byte
		w uint64
		e api.Code
	}{
		{api.Int32, []byte{0}, 0, api.Fine},
		{api.Int32, []byte{128, 0}, 0, api.Fine},
		{api.Int32, []byte{255, 255, 255, 255, 7}, 2147483647, api.Fine},
		{api.Int32, []byte{128, 128, 128, 128, 8}, 18446744071562067968, api.Fine},
		{api.Int32, []byte{255, 255, 255, 255, 15}, math.MaxUint64, api.Fine},
		{api.Int32, []byte{128, 128, 128, 128, 16}, 0, api.Fine},
		{api.Int32, []byte{129, 128, 128, 128, 16}, 1, api.Fine},
		{api.Int32, high(9, 255, 1), math.MaxUint64, api.Fine},
		{api.Int32, high(9, 128, 1), 0, api.Fine},
		{api.Enum, []byte{255, 255, 255, 255, 15}, math.MaxUint64, api.Fine},
		{api.Enum, []byte{128, 128, 128, 128, 8}, 18446744071562067968, api.Fine},
		{api.Int64, []byte{255, 255, 255, 255, 15}, math.MaxUint32, api.Fine},
		{api.Int64, high(9, 255, 1), math.MaxUint64, api.Fine},
		{api.Int64, high(9, 128, 1), 1 << 63, api.Fine},
		{api.Int64, high(8, 255, 127), 1<<63 - 1, api.Fine},
		{api.Uint32, []byte{255, 255, 255, 255, 15}, math.MaxUint32, api.Fine},
		{api.Uint32, []byte{255, 255, 255, 255, 31}, math.MaxUint32, api.Fine},
		{api.Uint32, []byte{128, 128, 128, 128, 16}, 0, api.Fine},
		{api.Uint32, high(9, 255, 1), math.MaxUint32, api.Fine},
		{api.Uint64, high(9, 255, 1), math.MaxUint64, api.Fine},
		{api.Sint32, []byte{3}, 3, api.Fine},
		{api.Sint32, high(9, 255, 1), math.MaxUint32, api.Fine},
		{api.Sint64, high(9, 255, 1), math.MaxUint64, api.Fine},
		{api.Bool, []byte{0}, 0, api.Fine},
		{api.Bool, []byte{1}, 1, api.Fine},
		{api.Bool, []byte{2}, 1, api.Fine},
		{api.Bool, []byte{128, 1}, 1, api.Fine},
		{api.Bool, []byte{128, 128, 0}, 0, api.Fine},
		{api.Bool, []byte{128, 128, 128, 128, 16}, 1, api.Fine},
		{api.Bool, high(9, 128, 1), 1, api.Fine},

		{api.Bool, nil, 0, api.Form},
		{api.Bool, []byte{}, 0, api.Form},
		{api.Bool, []byte{1, 0}, 0, api.Form},
		{api.Bool, []byte{128}, 0, api.Form},
		{api.Int64, []byte{0, 0}, 0, api.Form},
		{api.Int64, []byte{128, 1, 128, 1}, 0, api.Form},
		{api.Int64, []byte{128, 1, 128}, 0, api.Form},
		{api.Int64, high(9, 255), 0, api.Form},
		{api.Int64, high(9, 255, 2), 0, api.Form},
		{api.Int64, high(9, 128, 127), 0, api.Form},
		{api.Int64, high(10, 128), 0, api.Form},
		{api.Int64, high(10, 128, 0), 0, api.Form},
		{api.Int64, high(9, 255, 1, 0), 0, api.Form},
		{api.Uint32, []byte{1, 2, 3, 4}, 0, api.Form},
		{api.Uint64, []byte{1, 2, 3, 4, 5, 6, 7, 8}, 0, api.Form},
	} {
		if w, e := scalar.Read(c.k, c.b); w != c.w || e != c.e {
			t.Errorf("Read of %s, %v: %d, %v, not %d, %v", kind.Name(c.k), c.b, w, e, c.w, c.e)
		}
	}
}

// P8.1: Read of fours and eights at ends that are written out.
func TestReadFixedEnds(t *testing.T) {
	for _, c := range []struct {
		k int
		b []byte
		w uint64
		e api.Code
	}{
		{api.Fixed32, []byte{0, 0, 0, 0}, 0, api.Fine},
		{api.Fixed32, []byte{1, 2, 3, 4}, 0x04030201, api.Fine},
		{api.Fixed32, []byte{0, 0, 0, 128}, 1 << 31, api.Fine},
		{api.Sfixed32, []byte{255, 255, 255, 255}, math.MaxUint32, api.Fine},
		{api.Sfixed32, []byte{0, 0, 0, 128}, 1 << 31, api.Fine},
		{api.Float, []byte{0, 0, 128, 63}, 0x3f800000, api.Fine},
		{api.Float, []byte{0, 0, 192, 127}, 0x7fc00000, api.Fine},
		{api.Fixed64, []byte{1, 2, 3, 4, 5, 6, 7, 8}, 0x0807060504030201, api.Fine},
		{api.Fixed64, []byte{0, 0, 0, 0, 1, 0, 0, 0}, 1 << 32, api.Fine},
		{api.Sfixed64, bytes.Repeat([]byte{255}, 8), math.MaxUint64, api.Fine},
		{api.Double, []byte{0, 0, 0, 0, 0, 0, 240, 63}, 0x3ff0000000000000, api.Fine},
		{api.Double, []byte{0, 0, 0, 0, 0, 0, 0, 128}, 1 << 63, api.Fine},
		{api.Double, []byte{1, 0, 0, 0, 0, 0, 248, 127}, 0x7ff8000000000001, api.Fine},

		{api.Fixed32, nil, 0, api.Form},
		{api.Fixed32, []byte{0}, 0, api.Form},
		{api.Fixed32, []byte{1, 2, 3}, 0, api.Form},
		{api.Fixed32, []byte{1, 2, 3, 4, 0}, 0, api.Form},
		{api.Sfixed32, bytes.Repeat([]byte{255}, 8), 0, api.Form},
		{api.Float, bytes.Repeat([]byte{0}, 8), 0, api.Form},
		{api.Fixed64, nil, 0, api.Form},
		{api.Fixed64, []byte{1, 2, 3, 4}, 0, api.Form},
		{api.Sfixed64, bytes.Repeat([]byte{255}, 7), 0, api.Form},
		{api.Double, bytes.Repeat([]byte{0}, 9), 0, api.Form},
		{api.Double, bytes.Repeat([]byte{0}, 16), 0, api.Form},
	} {
		if w, e := scalar.Read(c.k, c.b); w != c.w || e != c.e {
			t.Errorf("Read of %s, %v: %d, %v, not %d, %v", kind.Name(c.k), c.b, w, e, c.w, c.e)
		}
	}
}

// P8.1, P8.2, R2: of what isn't a number's kind, Read and Put tell Arg and nothing, ahead of all else; no bytes are canonical, or the same.
func TestOtherKinds(t *testing.T) {
	l := [][]byte{nil, {}, {0}, {1}, {128}, {128, 0}, {1, 1}, {1, 2, 3, 4}, {1, 2, 3, 4, 5, 6, 7, 8}, high(11, 255)}
	for _, k := range others() {
		for _, b := range l {
			if w, e := scalar.Read(k, b); w != 0 || e != api.Arg {
				t.Errorf("Read of %d, %v: %d, %v", k, b, w, e)
			}
			if scalar.Canonical(k, b) || scalar.Same(k, b, b) {
				t.Errorf("of %d, %v: Canonical %v, Same %v", k, b, scalar.Canonical(k, b), scalar.Same(k, b, b))
			}
		}
		for _, w := range []uint64{0, 1, 7, 128, 1<<32 - 1, 1 << 32, math.MaxUint64} {
			if b, e := scalar.Put(k, w); len(b) != 0 || e != api.Arg {
				t.Errorf("Put of %d, %d: %v, %v", k, w, b, e)
			}
			if n := scalar.Size(k, w); n != 0 {
				t.Errorf("Size of %d, %d: %d", k, w, n)
			}
		}
	}
}

// P8.1: Put and Size of each kind, at all words.
func TestPut(t *testing.T) {
	for _, k := range numbers() {
		for _, w := range words() {
			want := defined(k, w)
			if b, e := scalar.Put(k, w); !bytes.Equal(b, want) || e != api.Fine {
				t.Fatalf("Put of %s, %d: %v, %v, not %v", kind.Name(k), w, b, e, want)
			}
			if n := scalar.Size(k, w); n != len(want) {
				t.Fatalf("Size of %s, %d: %d, not %d", kind.Name(k), w, n, len(want))
			}
		}
	}
}

// P8.1: Put and Size at ends that are written out.
func TestPutEnds(t *testing.T) {
	for _, c := range []struct {
		k int
		w uint64
		b []byte
	}{
		{api.Int32, 0, []byte{0}},
		{api.Int32, 127, []byte{127}},
		{api.Int32, 128, []byte{128, 1}},
		{api.Int32, 1<<31 - 1, []byte{255, 255, 255, 255, 7}},
		{api.Int32, 1 << 31, []byte{128, 128, 128, 128, 248, 255, 255, 255, 255, 1}},
		{api.Int32, 1<<32 - 1, high(9, 255, 1)},
		{api.Int32, 1 << 32, []byte{0}},
		{api.Int32, math.MaxUint64, high(9, 255, 1)},
		{api.Enum, 1<<32 - 1, high(9, 255, 1)},
		{api.Enum, 1 << 63, []byte{0}},
		{api.Int64, 1<<32 - 1, []byte{255, 255, 255, 255, 15}},
		{api.Int64, 1<<63 - 1, high(8, 255, 127)},
		{api.Int64, 1 << 63, high(9, 128, 1)},
		{api.Uint32, math.MaxUint64, []byte{255, 255, 255, 255, 15}},
		{api.Uint32, 1 << 32, []byte{0}},
		{api.Uint64, math.MaxUint64, high(9, 255, 1)},
		{api.Sint32, math.MaxUint64, []byte{255, 255, 255, 255, 15}},
		{api.Sint64, 1 << 32, []byte{128, 128, 128, 128, 16}},
		{api.Bool, 0, []byte{0}},
		{api.Bool, 1, []byte{1}},
		{api.Bool, 300, []byte{1}},
		{api.Bool, 1 << 32, []byte{1}},
		{api.Bool, math.MaxUint64, []byte{1}},
		{api.Fixed32, 0, []byte{0, 0, 0, 0}},
		{api.Fixed32, 0x0807060504030201, []byte{1, 2, 3, 4}},
		{api.Sfixed32, math.MaxUint64, []byte{255, 255, 255, 255}},
		{api.Float, 0x3f800000, []byte{0, 0, 128, 63}},
		{api.Float, 1 << 32, []byte{0, 0, 0, 0}},
		{api.Fixed64, 0x0807060504030201, []byte{1, 2, 3, 4, 5, 6, 7, 8}},
		{api.Fixed64, 0, bytes.Repeat([]byte{0}, 8)},
		{api.Sfixed64, math.MaxUint64, bytes.Repeat([]byte{255}, 8)},
		{api.Double, 0x3ff0000000000000, []byte{0, 0, 0, 0, 0, 0, 240, 63}},
	} {
		if b, e := scalar.Put(c.k, c.w); !bytes.Equal(b, c.b) || e != api.Fine {
			t.Errorf("Put of %s, %d: %v, %v, not %v", kind.Name(c.k), c.w, b, e, c.b)
		}
		if n := scalar.Size(c.k, c.w); n != len(c.b) {
			t.Errorf("Size of %s, %d: %d, not %d", kind.Name(c.k), c.w, n, len(c.b))
		}
	}
}

// P8.1, R4: what Put told is the caller's: a change to it, or behind it, changes no other answer.
func TestPutIsNew(t *testing.T) {
	for _, k := range numbers() {
		want := defined(k, 1)
		first, _ := scalar.Put(k, 1)
		second, _ := scalar.Put(k, 1)
		for i := range first {
			first[i] = 77
		}
		_ = append(first[:0], bytes.Repeat([]byte{66}, cap(first))...)
		third, _ := scalar.Put(k, 1)
		if !bytes.Equal(second, want) || !bytes.Equal(third, want) {
			t.Errorf("Put of %s: %v, %v", kind.Name(k), second, third)
		}
	}
}

// P8.2: Canonical is as the document defines it, and changes nothing.
func TestCanonical(t *testing.T) {
	for _, b := range rows() {
		before := bytes.Clone(b)
		for _, k := range numbers() {
			want := isValue(k, b) && bytes.Equal(b, defined(k, sum(k, b)))
			if got := scalar.Canonical(k, b); got != want {
				t.Fatalf("Canonical of %s, %v: %v", kind.Name(k), b, got)
			}
		}
		if !bytes.Equal(b, before) {
			t.Fatalf("Canonical changed %v to %v", before, b)
		}
	}
}

// P8.2: of a word's varints, just the minimal one of a canonical word is canonical.
func TestCanonicalVarints(t *testing.T) {
	for _, k := range varints() {
		for _, w := range words() {
			for n := 1; n <= 10; n++ {
				b := wider(w, n)
				want := canon(k, w) == w && len(b) == len(pieces(w))
				if got := scalar.Canonical(k, b); got != want {
					t.Fatalf("Canonical of %s, %v: %v", kind.Name(k), b, got)
				}
			}
		}
	}
}

// P8.2: Canonical at ends that are written out.
func TestCanonicalEnds(t *testing.T) {
	for _, c := range []struct {
		k    int
		b    []byte
		want bool
	}{
		{api.Bool, []byte{0}, true},
		{api.Bool, []byte{1}, true},
		{api.Bool, []byte{2}, false},
		{api.Bool, []byte{127}, false},
		{api.Bool, []byte{129, 0}, false},
		{api.Bool, []byte{128, 1}, false},
		{api.Bool, nil, false},
		{api.Int64, []byte{2}, true},
		{api.Int64, []byte{130, 0}, false},
		{api.Int64, []byte{128, 0}, false},
		{api.Int64, []byte{2, 2}, false},
		{api.Int64, high(9, 255, 1), true},
		{api.Int64, high(9, 255, 0), false},
		{api.Int64, high(8, 255, 127), true},
		{api.Int64, high(9, 255, 2), false},
		{api.Int32, []byte{255, 255, 255, 255, 7}, true},
		{api.Int32, []byte{255, 255, 255, 255, 15}, false},
		{api.Int32, high(9, 255, 1), true},
		{api.Int32, high(9, 128, 1), false},
		{api.Int32, []byte{128, 128, 128, 128, 248, 255, 255, 255, 255, 1}, true},
		{api.Int32, []byte{128, 128, 128, 128, 240, 255, 255, 255, 255, 1}, false},
		{api.Enum, []byte{255, 255, 255, 255, 15}, false},
		{api.Enum, high(9, 255, 1), true},
		{api.Uint32, []byte{255, 255, 255, 255, 15}, true},
		{api.Uint32, []byte{255, 255, 255, 255, 31}, false},
		{api.Uint32, []byte{128, 128, 128, 128, 16}, false},
		{api.Sint32, []byte{255, 255, 255, 255, 15}, true},
		{api.Sint32, high(9, 255, 1), false},
		{api.Sint64, high(9, 255, 1), true},
		{api.Uint64, []byte{128, 128, 128, 128, 16}, true},
		{api.Fixed32, []byte{0, 0, 0, 0}, true},
		{api.Fixed32, []byte{255, 255, 255, 255}, true},
		{api.Fixed32, []byte{0}, false},
		{api.Sfixed32, []byte{255, 255, 255, 255}, true},
		{api.Float, []byte{1, 0, 192, 127}, true},
		{api.Float, []byte{0, 0, 0, 0, 0, 0, 0, 0}, false},
		{api.Fixed64, []byte{0, 0, 0, 0, 0, 0, 0, 0}, true},
		{api.Sfixed64, bytes.Repeat([]byte{255}, 8), true},
		{api.Double, []byte{1, 0, 0, 0, 0, 0, 248, 127}, true},
		{api.Double, []byte{0, 0, 0, 0}, false},
		{api.Double, nil, false},
	} {
		if got := scalar.Canonical(c.k, c.b); got != c.want {
			t.Errorf("Canonical of %s, %v: %v", kind.Name(c.k), c.b, got)
		}
	}
}

// P8.2: Same is as the document defines it, both ways round, and changes nothing.
func TestSame(t *testing.T) {
	l := [][]byte{}
	for i, b := range rows() {
		if len(b) <= 2 || i%23 == 0 {
			l = append(l, b)
		}
	}
	for _, w := range []uint64{0, 1, 2, 1<<31 - 1, 1 << 31, 1<<32 - 1, 1 << 32, 1<<32 + 1, 1 << 63, math.MaxUint64} {
		l = append(l, pieces(w), wider(w, 7), wider(w, 10), defined(api.Fixed32, w), defined(api.Double, w))
	}
	for _, k := range numbers() {
		told := make([]uint64, len(l))
		for i, b := range l {
			told[i] = canon(k, sum(k, b))
		}
		for i, a := range l {
			for j, b := range l {
				want := isValue(k, a) && isValue(k, b) && told[i] == told[j]
				if got := scalar.Same(k, a, b); got != want {
					t.Fatalf("Same of %s, %v, %v: %v", kind.Name(k), a, b, got)
				}
			}
		}
	}
}

// P8.2: Same at ends that are written out.
func TestSameEnds(t *testing.T) {
	for _, c := range []struct {
		k    int
		a, b []byte
		want bool
	}{
		{api.Bool, []byte{2}, []byte{128, 1}, true},
		{api.Bool, []byte{0}, []byte{128, 0}, true},
		{api.Bool, []byte{0}, []byte{1}, false},
		{api.Bool, []byte{2}, nil, false},
		{api.Bool, nil, nil, false},
		{api.Int64, []byte{2}, []byte{128, 1}, false},
		{api.Int64, []byte{2}, []byte{130, 0}, true},
		{api.Int64, []byte{2}, []byte{2, 2}, false},
		{api.Int64, []byte{2, 2}, []byte{2, 2}, false},
		{api.Int64, []byte{128}, []byte{128}, false},
		{api.Int64, []byte{0}, nil, false},
		{api.Int32, []byte{255, 255, 255, 255, 15}, high(9, 255, 1), true},
		{api.Int64, []byte{255, 255, 255, 255, 15}, high(9, 255, 1), false},
		{api.Uint32, []byte{255, 255, 255, 255, 15}, high(9, 255, 1), true},
		{api.Uint64, []byte{0}, high(10, 128), false},
		{api.Fixed32, []byte{1, 0, 0, 0}, []byte{1, 0, 0, 0}, true},
		{api.Fixed32, []byte{1, 0, 0, 0}, []byte{1}, false},
		{api.Fixed32, []byte{1, 0, 0, 0}, []byte{1, 0, 0, 1}, false},
		{api.Fixed32, []byte{1, 0, 0, 0}, []byte{1, 0, 0, 0, 0, 0, 0, 0}, false},
		{api.Float, []byte{0, 0, 0, 0}, []byte{0, 0, 0, 128}, false},      // 0 and -0 have two words
		{api.Float, []byte{0, 0, 192, 127}, []byte{0, 0, 192, 127}, true}, // what is no number has one, too
		{api.Double, bytes.Repeat([]byte{255}, 8), bytes.Repeat([]byte{255}, 8), true},
		{api.Double, []byte{0, 0, 0, 0, 0, 0, 0, 0}, []byte{0, 0, 0, 0, 0, 0, 0, 128}, false},
		{api.Double, []byte{0, 0, 0, 0}, []byte{0, 0, 0, 0}, false},
		{api.String, []byte("a"), []byte("a"), false},
		{api.Bytes, nil, nil, false},
		{api.Sub, nil, nil, false},
	} {
		if got := scalar.Same(c.k, c.a, c.b); got != c.want {
			t.Errorf("Same of %s, %v, %v: %v", kind.Name(c.k), c.a, c.b, got)
		}
		if got := scalar.Same(c.k, c.b, c.a); got != c.want {
			t.Errorf("Same of %s, %v, %v: %v", kind.Name(c.k), c.b, c.a, got)
		}
	}
}

// R4: Same leaves both as they are, and pieces of one slice may be handed in.
func TestSameChangesNothing(t *testing.T) {
	room := []byte{129, 0, 1, 9}
	if !scalar.Same(api.Int32, room[:2], room[2:3]) || scalar.Same(api.Int32, room[:2], room[2:]) {
		t.Error("Same of pieces of one slice")
	}
	if !bytes.Equal(room, []byte{129, 0, 1, 9}) {
		t.Errorf("changed to %v", room)
	}
}

// R1: bytes without an end, and very many, are no value's bytes; what lies behind a slice isn't looked at.
func TestManyBytes(t *testing.T) {
	many := high(1<<20, 128)
	for _, k := range numbers() {
		for _, b := range [][]byte{many, make([]byte, 1<<20), high(1<<20, 255, 1)} {
			if w, e := scalar.Read(k, b); w != 0 || e != api.Form {
				t.Errorf("Read of %s: %d, %v", kind.Name(k), w, e)
			}
			if scalar.Canonical(k, b) || scalar.Same(k, b, b) {
				t.Errorf("of %s: Canonical, or Same", kind.Name(k))
			}
		}
		if _, e := scalar.Read(k, []byte{129, 0, 0, 0, 0, 0, 0, 0}[:1]); e != api.Form {
			t.Errorf("Read of %s of a piece: %v", kind.Name(k), e)
		}
	}
}

// P8.3: what is put is read: the canonical word; it is canonical, has its size, and is the same as itself.
func TestPutIsRead(t *testing.T) {
	for _, k := range numbers() {
		for _, w := range words() {
			b, _ := scalar.Put(k, w)
			want, _ := kind.Canon(k, w)
			if got, e := scalar.Read(k, b); got != want || e != api.Fine {
				t.Fatalf("Read of Put of %s, %d: %d, %v", kind.Name(k), w, got, e)
			}
			again, _ := scalar.Put(k, want)
			if !bytes.Equal(again, b) || !scalar.Canonical(k, b) || !scalar.Same(k, b, b) || scalar.Size(k, want) != len(b) {
				t.Fatalf("Put of %s, %d: %v, %v", kind.Name(k), w, b, again)
			}
			if size(k) == 0 && len(b) != bits.Len(want) {
				t.Fatalf("Put of %s, %d: %d bytes", kind.Name(k), w, len(b))
			}
		}
	}
}

// P8.3: canonical bytes are the same just if their words are.
func TestCanonicalIsOne(t *testing.T) {
	l := []uint64{0, 1, 2, 127, 128, 255, 256, 1<<31 - 1, 1 << 31, 1<<32 - 1, 1 << 32, 1<<32 + 1, 1 << 63, 1<<63 | 1, math.MaxUint64 - 1, math.MaxUint64}
	for _, k := range numbers() {
		for _, v := range l {
			for _, w := range l {
				a, _ := scalar.Put(k, v)
				b, _ := scalar.Put(k, w)
				same := canon(k, v) == canon(k, w)
				if bytes.Equal(a, b) != same || scalar.Same(k, a, b) != same {
					t.Errorf("of %s, %d and %d: %v, %v", kind.Name(k), v, w, a, b)
				}
			}
		}
	}
}

// P8.3: what is read and put again is the same value, and canonical bytes come back as they were.
func TestReadIsPut(t *testing.T) {
	for _, b := range rows() {
		for _, k := range numbers() {
			w, e := scalar.Read(k, b)
			if e != api.Fine {
				continue
			}
			c, _ := scalar.Put(k, w)
			if !scalar.Same(k, b, c) || scalar.Canonical(k, b) != bytes.Equal(b, c) {
				t.Fatalf("of %s, %v: %v", kind.Name(k), b, c)
			}
		}
	}
}

// The chapter's example.
func TestExample(t *testing.T) {
	w, e := scalar.Read(api.Int32, []byte{255, 255, 255, 255, 15})
	if w != math.MaxUint64 || e != api.Fine {
		t.Errorf("Read: %d, %v", w, e)
	}
	b, e := scalar.Put(api.Int32, w)
	if len(b) != 10 || e != api.Fine || !varint.Minimal(b) {
		t.Errorf("Put: %v, %v", b, e)
	}
}
