package kind_test

import (
	"math"
	"slices"
	"strings"
	"testing"

	"darning/api"
	"darning/bits"
	"darning/kind"
)

// row is what the document says of a kind: a number's, if the wire type isn't 2.
type row struct {
	kind   int
	name   string
	wire   int
	number bool
}

// rows are the kinds, as the chapter lists them.
func rows() []row {
	return []row{
		{1, "int32", 0, true},
		{2, "int64", 0, true},
		{3, "uint32", 0, true},
		{4, "uint64", 0, true},
		{5, "sint32", 0, true},
		{6, "sint64", 0, true},
		{7, "bool", 0, true},
		{8, "enum", 0, true},
		{9, "fixed32", 5, true},
		{10, "sfixed32", 5, true},
		{11, "float", 5, true},
		{12, "fixed64", 1, true},
		{13, "sfixed64", 1, true},
		{14, "double", 1, true},
		{15, "string", 2, false},
		{16, "bytes", 2, false},
		{17, "message", 2, false},
	}
}

// noKinds are numbers that are no kind; some that are 2^8, 2^16 or 2^32 away from one are among them.
func noKinds() []int {
	l := []int{math.MinInt, math.MinInt + 1, math.MinInt32, math.MinInt32 + 7, -256, -17, -2, -1, 0, math.MaxInt32, math.MaxInt - 1, math.MaxInt}
	for k := 18; k < 300; k++ {
		l = append(l, k)
	}
	for k := range 18 {
		l = append(l, k-256, k+256, k-1<<16, k+1<<16)
		if high := uint64(1)<<32 + uint64(k); high < math.MaxInt { // of 32 bits, it would go round to a kind
			l = append(l, int(high))
		}
	}
	return l
}

// words are those around all powers of 2, and mixed ones.
func words() []uint64 {
	l := []uint64{7, 9, 100, 300, 0x0123456789abcdef, 0xfedcba9876543210, 0x80000000ffffffff, 0xffffffff80000000, 0xdeadbeef00000000, 0xdeadbeef7fffffff}
	for i := range 64 {
		p := uint64(1) << i
		l = append(l, p-1, p, p+1, -p, ^p, 3*p, p|1<<63, p|1<<32, p|1<<31)
	}
	for w, i := uint64(1), 0; i < 300; i++ {
		w = w*6364136223846793005 + 1442695040888963407
		l = append(l, w, w>>32, w<<32, w>>48)
	}
	return l
}

// defined is the canonical word by the document, reckoned without shifts; false of no number's kind.
func defined(k int, w uint64) (uint64, bool) {
	low := w % 4294967296
	switch k {
	case 1, 8:
		if low >= 2147483648 { // the signed number is low - 2^32; its word 2^64 more
			return low + (math.MaxUint64 - 4294967296 + 1), true
		}
		return low, true
	case 3, 5, 9, 10, 11:
		return low, true
	case 7:
		if w != 0 {
			return 1, true
		}
		return 0, true
	case 2, 4, 6, 12, 13, 14:
		return w, true
	}
	return 0, false
}

// means tells by the document whether the word, a canonical one, means the number; false of a kind that has no signed ones.
func means(k int, word uint64, n int64) bool {
	switch k {
	case 1, 2, 8, 13:
		return uint64(n) == word
	case 10:
		return n >= math.MinInt32 && n <= math.MaxInt32 && uint64(uint32(int32(n))) == word
	case 5, 6:
		return bits.Zig(n) == word
	}
	return false
}

// isSigned tells whether Signed has an answer of the kind.
func isSigned(k int) bool { return slices.Contains([]int{1, 2, 5, 6, 8, 10, 13}, k) }

// P6.1: the kinds are api's, in the chapter's order.
func TestConstants(t *testing.T) {
	l := []int{
		api.Int32, api.Int64, api.Uint32, api.Uint64, api.Sint32, api.Sint64, api.Bool, api.Enum, api.Fixed32,
		api.Sfixed32, api.Float, api.Fixed64, api.Sfixed64, api.Double, api.String, api.Bytes, api.Sub,
	}
	for i, r := range rows() {
		if l[i] != r.kind {
			t.Errorf("%s: api has %d, the chapter %d", r.name, l[i], r.kind)
		}
	}
}

// P6.1: Right, Name, Wire and Number of each kind.
func TestKinds(t *testing.T) {
	for _, r := range rows() {
		if !kind.Right(r.kind) {
			t.Errorf("Right(%d): false", r.kind)
		}
		if s := kind.Name(r.kind); s != r.name {
			t.Errorf("Name(%d): %q, not %q", r.kind, s, r.name)
		}
		if w, e := kind.Wire(r.kind); w != r.wire || e != api.Fine {
			t.Errorf("Wire(%d): %d, %v, not %d", r.kind, w, e, r.wire)
		}
		if b := kind.Number(r.kind); b != r.number {
			t.Errorf("Number(%d): %v", r.kind, b)
		}
	}
}

// P6.1, R2: what is no kind has no name, no wire type (Arg), and is no number's.
func TestNoKinds(t *testing.T) {
	for _, k := range noKinds() {
		w, e := kind.Wire(k)
		if kind.Right(k) || kind.Name(k) != "" || w != 0 || e != api.Arg || kind.Number(k) {
			t.Errorf("%d: %v, %q, %d, %v, %v", k, kind.Right(k), kind.Name(k), w, e, kind.Number(k))
		}
	}
}

// P6.1: Parse tells each name's kind.
func TestParse(t *testing.T) {
	for _, r := range rows() {
		if k, e := kind.Parse(r.name); k != r.kind || e != api.Fine {
			t.Errorf("Parse(%q): %d, %v, not %d", r.name, k, e, r.kind)
		}
	}
}

// P6.1, R2: Parse of what is no kind's name, be it but a letter from one: None.
func TestParseNone(t *testing.T) {
	l := []string{"", " ", "sub", "Sub", "msg", "int", "sint", "uint", "fixed", "sfixed", "bytes32", "group", "other", "\xff", "1", "17", "float64", "float32", "boolean"}
	for _, r := range rows() {
		n := r.name
		l = append(l, n+" ", " "+n, n+"\x00", n+"s", n[:len(n)-1], n[1:], n+n, strings.ToUpper(n), strings.ToUpper(n[:1])+n[1:], "api."+n)
	}
	names := []string{}
	for _, r := range rows() {
		names = append(names, r.name)
	}
	for _, n := range l {
		if slices.Contains(names, n) { // int32 is sint32 without its first letter
			continue
		}
		if k, e := kind.Parse(n); k != 0 || e != api.None {
			t.Errorf("Parse(%q): %d, %v", n, k, e)
		}
	}
}

// P6.1: All tells the kinds, rising, each time the same.
func TestAll(t *testing.T) {
	want := []int{1, 2, 3, 4, 5, 6, 7, 8, 9, 10, 11, 12, 13, 14, 15, 16, 17}
	for range 50 {
		if l := kind.All(); !slices.Equal(l, want) {
			t.Fatalf("All: %v", l)
		}
	}
}

// P6.1, R4: what All told is the caller's: a change to it, or behind it, changes no other answer.
func TestAllNew(t *testing.T) {
	l := kind.All()
	clear(l)
	_ = append(l[:0], 99, 98)
	if l := kind.All(); len(l) != 17 || l[0] != 1 || l[16] != 17 || kind.Name(1) != "int32" || !kind.Right(17) || kind.Right(99) {
		t.Errorf("All: %v", l)
	}
}

// P6.2: Canon of each kind, at all words.
func TestCanon(t *testing.T) {
	for _, r := range rows() {
		for _, w := range words() {
			want, ok := defined(r.kind, w)
			got, e := kind.Canon(r.kind, w)
			if ok != r.number || ok != (e == api.Fine) || got != want {
				t.Fatalf("Canon(%s, %d): %d, %v, not %d", r.name, w, got, e, want)
			}
		}
	}
}

// P6.2: Canon at ends that are written out.
func TestCanonEnds(t *testing.T) {
	for _, c := range []struct {
		k       int
		w, want uint64
	}{
		{api.Int32, 0, 0},
		{api.Int32, 2147483647, 2147483647},
		{api.Int32, 2147483648, 18446744071562067968},
		{api.Int32, 4294967296, 0},
		{api.Int32, 18446744073709551615, 18446744073709551615},
		{api.Enum, 2147483648, 18446744071562067968},
		{api.Enum, 9223372036854775808, 0},
		{api.Uint32, 4294967295, 4294967295},
		{api.Uint32, 4294967296, 0},
		{api.Uint32, 18446744073709551615, 4294967295},
		{api.Sint32, 18446744073709551615, 4294967295},
		{api.Fixed32, 4294967297, 1},
		{api.Sfixed32, 18446744073709551615, 4294967295},
		{api.Float, 4294967296, 0},
		{api.Bool, 0, 0},
		{api.Bool, 1, 1},
		{api.Bool, 2, 1},
		{api.Bool, 4294967296, 1},
		{api.Bool, 18446744073709551615, 1},
		{api.Int64, 9223372036854775808, 9223372036854775808},
		{api.Sint64, 4294967296, 4294967296},
		{api.Fixed64, 18446744073709551615, 18446744073709551615},
		{api.Sfixed64, 9223372036854775809, 9223372036854775809},
		{api.Double, 4294967296, 4294967296},
	} {
		if w, e := kind.Canon(c.k, c.w); w != c.want || e != api.Fine {
			t.Errorf("Canon(%s, %d): %d, %v, not %d", kind.Name(c.k), c.w, w, e, c.want)
		}
	}
}

// P6.2, R2: Canon and Signed of what isn't a number's kind: Arg, and 0.
func TestArg(t *testing.T) {
	for _, k := range append(noKinds(), api.String, api.Bytes, api.Sub) {
		for _, w := range []uint64{0, 1, 7, 1 << 31, 1<<32 - 1, 1 << 32, math.MaxUint64} {
			if got, e := kind.Canon(k, w); got != 0 || e != api.Arg {
				t.Errorf("Canon(%d, %d): %d, %v", k, w, got, e)
			}
			if n, e := kind.Signed(k, w); n != 0 || e != api.Arg {
				t.Errorf("Signed(%d, %d): %d, %v", k, w, n, e)
			}
		}
	}
}

// P6.2: Signed of each kind, at all words: the number that the canonical word means; Arg of kinds that have none.
func TestSigned(t *testing.T) {
	for _, r := range rows() {
		for _, w := range words() {
			n, e := kind.Signed(r.kind, w)
			if !isSigned(r.kind) {
				if n != 0 || e != api.Arg {
					t.Fatalf("Signed(%s, %d): %d, %v", r.name, w, n, e)
				}
				continue
			}
			if word, _ := defined(r.kind, w); e != api.Fine || !means(r.kind, word, n) {
				t.Fatalf("Signed(%s, %d): %d, %v", r.name, w, n, e)
			}
		}
	}
}

// P6.2: Signed at ends that are written out.
func TestSignedEnds(t *testing.T) {
	for _, c := range []struct {
		k    int
		w    uint64
		want int64
	}{
		{api.Int32, 2147483647, 2147483647},
		{api.Int32, 2147483648, -2147483648},
		{api.Int32, 4294967295, -1},
		{api.Int32, 4294967296, 0},
		{api.Int64, 4294967295, 4294967295},
		{api.Int64, 9223372036854775807, 9223372036854775807},
		{api.Int64, 9223372036854775808, -9223372036854775808},
		{api.Enum, 4294967295, -1},
		{api.Enum, 18446744073709551615, -1},
		{api.Sfixed32, 2147483647, 2147483647},
		{api.Sfixed32, 2147483648, -2147483648},
		{api.Sfixed32, 8589934591, -1},
		{api.Sfixed64, 18446744073709551615, -1},
		{api.Sfixed64, 4294967295, 4294967295},
		{api.Sint32, 0, 0},
		{api.Sint32, 1, -1},
		{api.Sint32, 2, 1},
		{api.Sint32, 4294967294, 2147483647},
		{api.Sint32, 4294967295, -2147483648},
		{api.Sint32, 4294967296, 0},
		{api.Sint32, 18446744073709551615, -2147483648},
		{api.Sint64, 4294967296, 2147483648},
		{api.Sint64, 18446744073709551614, 9223372036854775807},
		{api.Sint64, 18446744073709551615, -9223372036854775808},
	} {
		if n, e := kind.Signed(c.k, c.w); n != c.want || e != api.Fine {
			t.Errorf("Signed(%s, %d): %d, %v, not %d", kind.Name(c.k), c.w, n, e, c.want)
		}
	}
}

// P6.3: a canonical word's canonical word is itself, and it means the same number.
func TestTwice(t *testing.T) {
	for _, k := range kind.All() {
		for _, w := range words() {
			once, e := kind.Canon(k, w)
			if e != api.Fine {
				continue
			}
			if twice, e := kind.Canon(k, once); twice != once || e != api.Fine {
				t.Fatalf("Canon(%d, %d): %d, %v", k, once, twice, e)
			}
			n, e := kind.Signed(k, w)
			if m, f := kind.Signed(k, once); m != n || e != f {
				t.Fatalf("Signed(%d, %d): %d, %v, not %d, %v", k, once, m, f, n, e)
			}
		}
	}
}

// The chapter's examples.
func TestExamples(t *testing.T) {
	if w, e := kind.Canon(api.Int32, 1<<32-1); w != math.MaxUint64 || e != api.Fine {
		t.Errorf("Canon of int32: %d, %v", w, e)
	}
	if w, e := kind.Canon(api.Bool, 7); w != 1 || e != api.Fine {
		t.Errorf("Canon of bool: %d, %v", w, e)
	}
}
