package run_test

import (
	"bytes"
	"math"
	"math/big"
	"slices"
	"testing"

	"darning/api"
	"darning/kind"
	"darning/run"
	"darning/scalar"
)

// varints are the kinds of wire type 0, fours of 5, eights of 1: as the chapter of kinds lists them.
func varints() []int { return []int{1, 2, 3, 4, 5, 6, 7, 8} }
func fours() []int   { return []int{9, 10, 11} }
func eights() []int  { return []int{12, 13, 14} }

// numbers are all numbers' kinds.
func numbers() []int { return slices.Concat(varints(), fours(), eights()) }

// others are no numbers' kinds: texts, messages, and numbers that are no kind; some that are 2^8, 2^16 or 2^32 away from one.
func others() []int {
	l := []int{15, 16, 17, math.MinInt, math.MinInt + 1, math.MinInt32, -1, 0, math.MaxInt32, math.MaxInt - 1, math.MaxInt}
	for k := 18; k < 80; k++ {
		l = append(l, k)
	}
	for _, k := range numbers() {
		l = append(l, -k, k-256, k+256, k+1<<16)
		if high := uint64(1)<<32 + uint64(k); high < math.MaxInt { // of 32 bits, it would go round to a kind
			l = append(l, int(high))
		}
	}
	return l
}

// high is n bytes c (of 128 or more), and the tail behind them.
func high(n int, c byte, tail ...byte) []byte {
	return append(bytes.Repeat([]byte{c}, n), tail...)
}

// size is how many bytes the values of a number's kind have; 0 of varints.
func size(k int) int {
	switch {
	case slices.Contains(fours(), k):
		return 4
	case slices.Contains(eights(), k):
		return 8
	}
	return 0
}

// head is how many bytes the varint has that bytes begin with, by the document.
func head(b []byte) (int, api.Code) {
	end := slices.IndexFunc(b, func(c byte) bool { return c < 128 })
	lead := end // how many bytes of 128 or more are ahead
	if end < 0 {
		lead = len(b)
	}
	switch {
	case lead >= 10 || lead == 9 && end == 9 && b[9] > 1:
		return 0, api.Over
	case end < 0:
		return 0, api.Short
	}
	return end + 1, api.Fine
}

// divide tells by the document the values of a run of a number's kind, each by itself, or what isn't right first.
func divide(k int, b []byte) ([][]byte, api.Code) {
	var l [][]byte
	n := size(k)
	if n > 0 && len(b)%n != 0 {
		return nil, api.Short
	}
	for len(b) > 0 {
		piece := n
		if n == 0 {
			var e api.Code
			if piece, e = head(b); e != api.Fine {
				return nil, e
			}
		}
		l = append(l, bytes.Clone(b[:piece]))
		b = b[piece:]
	}
	return l, api.Fine
}

// word is the canonical word of value's bytes by the document: each byte times what its place counts, and what of that the kind leaves.
func word(k int, b []byte) uint64 {
	step := int64(256)
	if size(k) == 0 {
		step = 128
	}
	all, times := big.NewInt(0), big.NewInt(1)
	for _, c := range b {
		all.Add(all, new(big.Int).Mul(big.NewInt(int64(c)%step), times))
		times.Mul(times, big.NewInt(step))
	}
	return canon(k, all.Uint64())
}

// canon is the canonical word by the document, reckoned without shifts.
func canon(k int, w uint64) uint64 {
	low := w % 4294967296
	switch k {
	case 1, 8:
		if low >= 2147483648 { // the signed number is low - 2^32; its word 2^64 more
			return low + (math.MaxUint64 - 4294967296 + 1)
		}
		return low
	case 3, 5, 9, 10, 11:
		return low
	case 7:
		if w != 0 {
			return 1
		}
		return 0
	}
	return w
}

// laid are a word's canonical bytes by the document, reckoned by division.
func laid(k int, w uint64) []byte {
	w = canon(k, w)
	var b []byte
	for range size(k) {
		b = append(b, byte(w%256))
		w /= 256
	}
	if size(k) > 0 {
		return b
	}
	for ; w >= 128; w /= 128 {
		b = append(b, byte(w%128)+128)
	}
	return append(b, byte(w))
}

// packed is the canonical run of words by the document.
func packed(k int, l []uint64) []byte {
	var b []byte
	for _, w := range l {
		b = append(b, laid(k, w)...)
	}
	return b
}

// told are the words of values.
func told(k int, l [][]byte) []uint64 {
	var words []uint64
	for _, v := range l {
		words = append(words, word(k, v))
	}
	return words
}

// samples are value's bytes of a kind, canonical ones and others.
func samples(k int) [][]byte {
	switch size(k) {
	case 4:
		return [][]byte{{0, 0, 0, 0}, {1, 2, 3, 4}, {255, 255, 255, 255}, {128, 128, 128, 128}, {0, 0, 0, 128}}
	case 8:
		return [][]byte{make([]byte, 8), {1, 2, 3, 4, 5, 6, 7, 8}, high(8, 255), high(8, 128), {0, 0, 0, 0, 1, 0, 0, 0}}
	}
	return [][]byte{
		{0}, {1}, {2}, {127}, {128, 0}, {129, 0}, {128, 1}, {172, 2}, {255, 255, 3},
		{255, 255, 255, 255, 7}, {255, 255, 255, 255, 15}, {128, 128, 128, 128, 16}, {128, 128, 128, 128, 8},
		high(9, 255, 1), high(9, 128, 1), high(9, 128, 0), high(8, 255, 127), {128, 128, 128, 128, 248, 255, 255, 255, 255, 1},
	}
}

// faults are bytes that no run begins with, each with why.
func faults(k int) map[string]api.Code {
	switch size(k) {
	case 4:
		return map[string]api.Code{"\x00": api.Short, "\x01\x02": api.Short, "\xff\xff\xff": api.Short, "\x80\x80\x80": api.Short}
	case 8:
		return map[string]api.Code{"\x00": api.Short, "\x01\x02\x03\x04": api.Short, "\xff\xff\xff\xff\xff\xff\xff": api.Short}
	}
	return map[string]api.Code{
		"\x80":                         api.Short,
		"\xff\xff":                     api.Short,
		string(high(9, 128)):           api.Short,
		string(high(9, 128, 2)):        api.Over,
		string(high(9, 255, 127)):      api.Over,
		string(high(9, 255, 2, 0, 1)):  api.Over,
		string(high(10, 128)):          api.Over,
		string(high(10, 128, 0)):       api.Over,
		string(high(10, 255, 1, 7, 8)): api.Over,
		string(high(30, 255)):          api.Over,
	}
}

// runs are all runs of at most two samples, and some longer ones.
func runs(k int) [][]byte {
	l := [][]byte{nil, {}}
	all := samples(k)
	for i, a := range all {
		l = append(l, a)
		for _, b := range all {
			l = append(l, slices.Concat(a, b))
		}
		l = append(l, slices.Concat(a, all[0], all[(i+1)%len(all)]), slices.Concat(slices.Concat(all[i:]...), a, a))
	}
	return append(l, slices.Concat(all...), bytes.Repeat(all[1], 300))
}

// rows are all rows of at most three bytes from a few, behind up to eleven bytes of 128 or more; and mixed ones of each length to 40.
func rows() [][]byte {
	few := []byte{0, 1, 2, 127, 128, 255}
	tails := [][]byte{{}}
	for _, c := range few {
		tails = append(tails, []byte{c})
		for _, d := range few {
			tails = append(tails, []byte{c, d})
			for _, f := range few {
				tails = append(tails, []byte{c, d, f})
			}
		}
	}
	var l [][]byte
	for n := range 12 {
		for _, t := range tails {
			l = append(l, high(n, 255, t...), high(n, 128, t...))
		}
	}
	w := uint64(1)
	for n := range 41 {
		l = append(l, make([]byte, n))
		for range 20 {
			b := make([]byte, n)
			for i := range b {
				w = w*6364136223846793005 + 1442695040888963407
				b[i] = byte(w>>56) >> (w >> 40 & 1) // half of them below 128, or so
			}
			l = append(l, b)
		}
	}
	return l
}

// all are the bytes that the calls are held against the document of.
func all(k int) [][]byte { return append(runs(k), rows()...) }

// places are those of n things, and others around them and at the ends of numbers.
func places(n int) []int {
	l := []int{math.MinInt, math.MinInt + 1, math.MinInt32, -2, -1, n, n + 1, n + 7, math.MaxInt32, math.MaxInt - 1, math.MaxInt}
	for i := range n {
		l = append(l, i)
	}
	return l
}

// P9.1: Words and Count are as the document defines them, and change nothing.
func TestWords(t *testing.T) {
	for _, k := range numbers() {
		for _, b := range all(k) {
			before := bytes.Clone(b)
			pieces, why := divide(k, b)
			if l, e := run.Words(k, b); !slices.Equal(l, told(k, pieces)) || e != why {
				t.Fatalf("Words of %s, %v: %v, %v, not %v, %v", kind.Name(k), b, l, e, told(k, pieces), why)
			}
			if n, e := run.Count(k, b); n != len(pieces) || e != why {
				t.Fatalf("Count of %s, %v: %d, %v, not %d, %v", kind.Name(k), b, n, e, len(pieces), why)
			}
			if !bytes.Equal(b, before) {
				t.Fatalf("of %s, %v was changed to %v", kind.Name(k), before, b)
			}
		}
	}
}

// P9.1: Words and Count at ends that are written out.
func TestWordsEnds(t *testing.T) {
	for _, c := range []struct {
		k int
		b []byte
		l []uint64
		e api.Code
	}{
		{api.Uint32, []byte{1, 172, 2}, []uint64{1, 300}, api.Fine}, // the chapter's example
		{api.Uint32, nil, nil, api.Fine},
		{api.Uint32, []byte{}, nil, api.Fine},
		{api.Uint32, []byte{128, 128, 128, 128, 16, 255, 255, 255, 255, 31}, []uint64{0, 1<<32 - 1}, api.Fine},
		{api.Int32, []byte{255, 255, 255, 255, 15, 1}, []uint64{math.MaxUint64, 1}, api.Fine},
		{api.Enum, []byte{128, 128, 128, 128, 8}, []uint64{math.MaxUint64 - 1<<31 + 1}, api.Fine},
		{api.Int64, []byte{255, 255, 255, 255, 15}, []uint64{1<<32 - 1}, api.Fine},
		{api.Uint64, high(9, 255, 1, 0), []uint64{math.MaxUint64, 0}, api.Fine},
		{api.Sint32, []byte{1, 128, 128, 128, 128, 16}, []uint64{1, 0}, api.Fine},
		{api.Sint64, []byte{1, 128, 128, 128, 128, 16}, []uint64{1, 1 << 32}, api.Fine},
		{api.Bool, []byte{0, 1, 2, 128, 1, 128, 0}, []uint64{0, 1, 1, 1, 0}, api.Fine},
		{api.Fixed32, []byte{1, 0, 0, 0, 0, 0, 0, 128}, []uint64{1, 1 << 31}, api.Fine},
		{api.Sfixed32, []byte{255, 255, 255, 255}, []uint64{1<<32 - 1}, api.Fine},
		{api.Float, []byte{0, 0, 128, 63, 0, 0, 192, 127}, []uint64{0x3f800000, 0x7fc00000}, api.Fine},
		{api.Fixed64, []byte{1, 2, 3, 4, 5, 6, 7, 8}, []uint64{0x0807060504030201}, api.Fine},
		{api.Sfixed64, high(8, 255), []uint64{math.MaxUint64}, api.Fine},
		{api.Double, make([]byte, 16), []uint64{0, 0}, api.Fine},

		{api.Uint32, []byte{1, 128}, nil, api.Short},
		{api.Uint64, high(9, 255), nil, api.Short},
		{api.Uint64, append([]byte{1}, high(9, 255, 2)...), nil, api.Over},
		{api.Uint64, append(high(9, 255, 2), 128), nil, api.Over}, // the first error of two
		{api.Bool, append(high(9, 255, 2), 1), nil, api.Over},
		{api.Fixed32, []byte{1}, nil, api.Short},
		{api.Fixed32, []byte{1, 2, 3, 4, 5}, nil, api.Short},
		{api.Float, []byte{1, 2, 3, 4, 5, 6, 7}, nil, api.Short},
		{api.Sfixed64, []byte{1, 2, 3, 4}, nil, api.Short},
		{api.Double, make([]byte, 12), nil, api.Short},
	} {
		if l, e := run.Words(c.k, c.b); !slices.Equal(l, c.l) || e != c.e {
			t.Errorf("Words of %s, %v: %v, %v, not %v, %v", kind.Name(c.k), c.b, l, e, c.l, c.e)
		}
		if n, e := run.Count(c.k, c.b); n != len(c.l) || e != c.e {
			t.Errorf("Count of %s, %v: %d, %v", kind.Name(c.k), c.b, n, e)
		}
	}
}

// wrong holds that no call tells anything but an error of bytes.
func wrong(t *testing.T, k int, b []byte, why api.Code) {
	t.Helper()
	if l, e := run.Words(k, b); len(l) != 0 || e != why {
		t.Errorf("Words of %d, %v: %v, %v, not %v", k, b, l, e, why)
	}
	if n, e := run.Count(k, b); n != 0 || e != why {
		t.Errorf("Count of %d, %v: %d, %v, not %v", k, b, n, e, why)
	}
	if run.Canonical(k, b) {
		t.Errorf("Canonical of %d, %v", k, b)
	}
	for _, i := range places(2) {
		if w, e := run.At(k, b, i); w != 0 || e != why {
			t.Errorf("At of %d, %v, %d: %d, %v, not %v", k, b, i, w, e, why)
		}
		if x, y, e := run.Cut(k, b, i); len(x) != 0 || len(y) != 0 || e != why {
			t.Errorf("Cut of %d, %v, %d: %v, %v, %v, not %v", k, b, i, x, y, e, why)
		}
	}
}

// P9.1, P9.2: what isn't right in a run is told by each call, wherever it stands, ahead of None.
func TestFaults(t *testing.T) {
	for _, k := range numbers() {
		for f, why := range faults(k) {
			wrong(t, k, []byte(f), why)
			for _, v := range samples(k) {
				wrong(t, k, slices.Concat(v, []byte(f)), why)
				wrong(t, k, slices.Concat(v, v, v, []byte(f)), why)
			}
		}
	}
}

// P9.1, P9.2: of what isn't a number's kind, all calls tell Arg, ahead of all else, of no bytes and no words, too.
func TestOtherKinds(t *testing.T) {
	l := [][]byte{nil, {}, {0}, {1, 1}, {128}, {1, 2, 3, 4}, {1, 2, 3, 4, 5, 6, 7, 8}, high(11, 255)}
	for _, k := range others() {
		for _, b := range l {
			wrong(t, k, b, api.Arg)
		}
		for _, words := range [][]uint64{nil, {}, {0}, {1, 300}, {math.MaxUint64}} {
			if b, e := run.Pack(k, words); len(b) != 0 || e != api.Arg {
				t.Errorf("Pack of %d, %v: %v, %v", k, words, b, e)
			}
		}
	}
}

// lists are words to pack: none, each end by itself, and all together.
func lists() [][]uint64 {
	var ends []uint64
	for i := range 64 {
		p := uint64(1) << i
		ends = append(ends, p-1, p, p+1, -p, 3*p)
	}
	l := [][]uint64{nil, {}, ends, {1, 300}, {7, 0}, {0, 0, 0}}
	for _, w := range ends {
		l = append(l, []uint64{w}, []uint64{w, 5, w}, []uint64{0, w})
	}
	return l
}

// P9.1: Pack is as the document defines it, and changes nothing.
func TestPack(t *testing.T) {
	for _, k := range numbers() {
		for _, l := range lists() {
			before, want := slices.Clone(l), packed(k, l)
			if b, e := run.Pack(k, l); !bytes.Equal(b, want) || e != api.Fine {
				t.Fatalf("Pack of %s, %v: %v, %v, not %v", kind.Name(k), l, b, e, want)
			}
			if !slices.Equal(l, before) {
				t.Fatalf("Pack of %s changed %v to %v", kind.Name(k), before, l)
			}
		}
	}
}

// P9.1: Pack at ends that are written out.
func TestPackEnds(t *testing.T) {
	for _, c := range []struct {
		k int
		l []uint64
		b []byte
	}{
		{api.Uint32, []uint64{1, 300}, []byte{1, 172, 2}},
		{api.Uint32, []uint64{1 << 32, math.MaxUint64}, []byte{0, 255, 255, 255, 255, 15}},
		{api.Int32, []uint64{1<<32 - 1, 0}, high(9, 255, 1, 0)},
		{api.Int64, []uint64{1<<32 - 1, 127, 128}, []byte{255, 255, 255, 255, 15, 127, 128, 1}},
		{api.Sint32, []uint64{1<<32 + 1}, []byte{1}},
		{api.Bool, []uint64{7, 0, 1 << 63, 1}, []byte{1, 0, 1, 1}},
		{api.Fixed32, []uint64{1, 0x0807060504030201}, []byte{1, 0, 0, 0, 1, 2, 3, 4}},
		{api.Float, []uint64{0x3f800000}, []byte{0, 0, 128, 63}},
		{api.Double, []uint64{0x3ff0000000000000, 0}, []byte{0, 0, 0, 0, 0, 0, 240, 63, 0, 0, 0, 0, 0, 0, 0, 0}},
		{api.Sfixed64, nil, nil},
	} {
		if b, e := run.Pack(c.k, c.l); !bytes.Equal(b, c.b) || e != api.Fine {
			t.Errorf("Pack of %s, %v: %v, %v, not %v", kind.Name(c.k), c.l, b, e, c.b)
		}
	}
}

// P9.2: Canonical is as the document defines it, and changes nothing.
func TestCanonical(t *testing.T) {
	for _, k := range numbers() {
		for _, b := range all(k) {
			before := bytes.Clone(b)
			pieces, why := divide(k, b)
			want := why == api.Fine && bytes.Equal(b, packed(k, told(k, pieces)))
			if got := run.Canonical(k, b); got != want {
				t.Fatalf("Canonical of %s, %v: %v", kind.Name(k), b, got)
			}
			if !bytes.Equal(b, before) {
				t.Fatalf("Canonical of %s changed %v to %v", kind.Name(k), before, b)
			}
		}
	}
}

// P9.2: Canonical at ends that are written out: one value that isn't canonical is enough, wherever it stands.
func TestCanonicalEnds(t *testing.T) {
	for _, c := range []struct {
		k    int
		b    []byte
		want bool
	}{
		{api.Uint32, nil, true},
		{api.Double, []byte{}, true},
		{api.Uint32, []byte{1, 172, 2}, true},
		{api.Uint32, []byte{129, 0, 1, 1}, false},
		{api.Uint32, []byte{1, 129, 0, 1}, false},
		{api.Uint32, []byte{1, 1, 129, 0}, false},
		{api.Uint32, []byte{1, 128}, false},
		{api.Uint32, []byte{255, 255, 255, 255, 15, 255, 255, 255, 255, 31}, false},
		{api.Uint64, []byte{255, 255, 255, 255, 15, 255, 255, 255, 255, 31}, true},
		{api.Int32, []byte{1, 255, 255, 255, 255, 15}, false},
		{api.Int32, append([]byte{1}, high(9, 255, 1)...), true},
		{api.Bool, []byte{1, 0, 1}, true},
		{api.Bool, []byte{1, 0, 2}, false},
		{api.Bool, []byte{2, 0, 1}, false},
		{api.Fixed32, []byte{1, 2, 3, 4, 5, 6, 7, 8}, true},
		{api.Fixed32, []byte{1, 2, 3, 4, 5}, false},
		{api.Fixed64, []byte{1, 2, 3, 4}, false},
		{api.String, nil, false},
		{api.Sub, nil, false},
		{0, nil, false},
	} {
		if got := run.Canonical(c.k, c.b); got != c.want {
			t.Errorf("Canonical of %d, %v: %v", c.k, c.b, got)
		}
	}
}

// P9.2: At is as the document defines it, at all places, and changes nothing.
func TestAt(t *testing.T) {
	for _, k := range numbers() {
		for _, b := range all(k) {
			before := bytes.Clone(b)
			pieces, why := divide(k, b)
			words := told(k, pieces)
			for _, i := range places(min(len(words), 20)) {
				want, e := uint64(0), why
				switch {
				case e != api.Fine:
				case i < 0 || i >= len(words):
					e = api.None
				default:
					want = words[i]
				}
				if got, f := run.At(k, b, i); got != want || f != e {
					t.Fatalf("At of %s, %v, %d: %d, %v, not %d, %v", kind.Name(k), b, i, got, f, want, e)
				}
			}
			if !bytes.Equal(b, before) {
				t.Fatalf("At of %s changed %v to %v", kind.Name(k), before, b)
			}
		}
	}
}

// P9.2: Cut is as the document defines it, at all places, and changes nothing.
func TestCut(t *testing.T) {
	for _, k := range numbers() {
		for _, b := range all(k) {
			before := bytes.Clone(b)
			pieces, why := divide(k, b)
			for _, n := range places(min(len(pieces), 20)) {
				var head, tail []byte
				e := why
				switch {
				case e != api.Fine:
				case n < 0 || n > len(pieces):
					e = api.None
				default:
					head, tail = slices.Concat(pieces[:n]...), slices.Concat(pieces[n:]...)
				}
				if x, y, f := run.Cut(k, b, n); !bytes.Equal(x, head) || !bytes.Equal(y, tail) || f != e {
					t.Fatalf("Cut of %s, %v, %d: %v, %v, %v, not %v, %v, %v", kind.Name(k), b, n, x, y, f, head, tail, e)
				}
			}
			if !bytes.Equal(b, before) {
				t.Fatalf("Cut of %s changed %v to %v", kind.Name(k), before, b)
			}
		}
	}
}

// P9.2: At and Cut at ends that are written out.
func TestAtAndCutEnds(t *testing.T) {
	b := []byte{1, 172, 2, 130, 0, 5}
	for _, c := range []struct {
		i    int
		w    uint64
		at   api.Code
		x, y []byte
		cut  api.Code
	}{
		{math.MinInt, 0, api.None, nil, nil, api.None},
		{-1, 0, api.None, nil, nil, api.None},
		{0, 1, api.Fine, nil, b, api.Fine},
		{1, 300, api.Fine, b[:1], b[1:], api.Fine},
		{2, 2, api.Fine, b[:3], b[3:], api.Fine},
		{3, 5, api.Fine, b[:5], b[5:], api.Fine},
		{4, 0, api.None, b, nil, api.Fine},
		{5, 0, api.None, nil, nil, api.None},
		{6, 0, api.None, nil, nil, api.None},
		{math.MaxInt, 0, api.None, nil, nil, api.None},
	} {
		if w, e := run.At(api.Uint64, b, c.i); w != c.w || e != c.at {
			t.Errorf("At %d: %d, %v, not %d, %v", c.i, w, e, c.w, c.at)
		}
		if x, y, e := run.Cut(api.Uint64, b, c.i); !bytes.Equal(x, c.x) || !bytes.Equal(y, c.y) || e != c.cut {
			t.Errorf("Cut at %d: %v, %v, %v, not %v, %v, %v", c.i, x, y, e, c.x, c.y, c.cut)
		}
	}
	for _, k := range numbers() {
		if w, e := run.At(k, nil, 0); w != 0 || e != api.None {
			t.Errorf("At of an empty run of %s: %d, %v", kind.Name(k), w, e)
		}
		if x, y, e := run.Cut(k, nil, 0); len(x) != 0 || len(y) != 0 || e != api.Fine {
			t.Errorf("Cut of an empty run of %s: %v, %v, %v", kind.Name(k), x, y, e)
		}
		if x, y, e := run.Cut(k, nil, 1); len(x) != 0 || len(y) != 0 || e != api.None {
			t.Errorf("Cut behind 1 of an empty run of %s: %v, %v, %v", kind.Name(k), x, y, e)
		}
	}
}

// spoil changes all bytes, and those behind them that belong to the slice.
func spoil(b []byte) {
	b = b[:cap(b)]
	for i := range b {
		b[i] = 77
	}
}

// R4: what Cut told is the caller's: changes to it change neither the run nor the other part.
func TestCutIsNew(t *testing.T) {
	for _, k := range numbers() {
		b := slices.Concat(samples(k)...)
		before := bytes.Clone(b)
		pieces, _ := divide(k, b)
		for n := range len(pieces) + 1 {
			x, y, _ := run.Cut(k, b, n)
			spoil(x)
			if !bytes.Equal(b, before) || !bytes.Equal(y, slices.Concat(pieces[n:]...)) {
				t.Fatalf("Cut of %s at %d: the first part shares its memory: %v, %v", kind.Name(k), n, b, y)
			}
			x, y, _ = run.Cut(k, b, n)
			spoil(y)
			if !bytes.Equal(b, before) || !bytes.Equal(x, slices.Concat(pieces[:n]...)) {
				t.Fatalf("Cut of %s at %d: the second part shares its memory: %v, %v", kind.Name(k), n, b, x)
			}
		}
	}
}

// R4: what Words and Pack told is the caller's: no call's answer changes another one's.
func TestAnswersAreNew(t *testing.T) {
	for _, k := range numbers() {
		l := []uint64{1, 0, 1}
		b, _ := run.Pack(k, l)
		words, _ := run.Words(k, b)
		spoil(b)
		clear(words[:cap(words)])
		again, _ := run.Pack(k, l)
		twice, _ := run.Words(k, again)
		if !slices.Equal(l, []uint64{1, 0, 1}) || !bytes.Equal(again, packed(k, l)) || !slices.Equal(twice, l) {
			t.Errorf("of %s: %v, %v, %v", kind.Name(k), l, again, twice)
		}
	}
}

// R1: what lies behind a slice isn't looked at.
func TestPieceOfASlice(t *testing.T) {
	room := []byte{1, 129, 0, 1, 0, 0, 0, 0, 0, 0, 0, 0}
	wrong(t, api.Uint32, room[:2], api.Short)
	wrong(t, api.Fixed32, room[:3], api.Short)
	wrong(t, api.Fixed64, room[:7], api.Short)
}

// R1: a run of very many values, and bytes without an end.
func TestManyBytes(t *testing.T) {
	const many = 1 << 20
	for _, k := range numbers() {
		n := max(size(k), 1)
		b := make([]byte, many)
		if count, e := run.Count(k, b); count != many/n || e != api.Fine {
			t.Errorf("Count of %s: %d, %v", kind.Name(k), count, e)
		}
		if l, e := run.Words(k, b); len(l) != many/n || e != api.Fine {
			t.Errorf("Words of %s: %d, %v", kind.Name(k), len(l), e)
		}
		if w, e := run.At(k, b, many/n-1); w != 0 || e != api.Fine {
			t.Errorf("At of %s: %d, %v", kind.Name(k), w, e)
		}
		if x, y, e := run.Cut(k, b, many/n/2); len(x) != many/2 || len(y) != many/2 || e != api.Fine {
			t.Errorf("Cut of %s: %d, %d, %v", kind.Name(k), len(x), len(y), e)
		}
		if !run.Canonical(k, b) {
			t.Errorf("Canonical of %s", kind.Name(k))
		}
	}
	wrong(t, api.Int64, high(many, 255), api.Over)
	wrong(t, api.Fixed64, make([]byte, many+1), api.Short)
}

// P9.3: two runs, one behind the other, are one, with the words of both.
func TestTogether(t *testing.T) {
	for _, k := range numbers() {
		l := runs(k)[:min(len(runs(k)), 60)]
		for _, a := range l {
			v, _ := run.Words(k, a)
			for _, b := range l {
				w, _ := run.Words(k, b)
				both := slices.Concat(a, b)
				if words, e := run.Words(k, both); !slices.Equal(words, slices.Concat(v, w)) || e != api.Fine {
					t.Fatalf("Words of %s, %v: %v, %v", kind.Name(k), both, words, e)
				}
				if n, e := run.Count(k, both); n != len(v)+len(w) || e != api.Fine {
					t.Fatalf("Count of %s, %v: %d, %v", kind.Name(k), both, n, e)
				}
				if got := run.Canonical(k, both); got != (run.Canonical(k, a) && run.Canonical(k, b)) {
					t.Fatalf("Canonical of %s, %v: %v", kind.Name(k), both, got)
				}
				if x, y, e := run.Cut(k, both, len(v)); !bytes.Equal(x, a) || !bytes.Equal(y, b) || e != api.Fine {
					t.Fatalf("Cut of %s, %v: %v, %v, %v", kind.Name(k), both, x, y, e)
				}
			}
		}
	}
}

// P9.1, P9.3: what is packed is a canonical run of the canonical words, each of which is found at its place.
func TestPackIsRead(t *testing.T) {
	for _, k := range numbers() {
		for _, l := range lists() {
			b, _ := run.Pack(k, l)
			words, e := run.Words(k, b)
			if len(words) != len(l) || e != api.Fine || !run.Canonical(k, b) {
				t.Fatalf("Pack of %s, %v: %v", kind.Name(k), l, b)
			}
			sum := 0
			for i, w := range words {
				c, _ := kind.Canon(k, l[i])
				if at, e := run.At(k, b, i); w != c || at != c || e != api.Fine {
					t.Fatalf("of %s, %v, at %d: %d, %d, %v", kind.Name(k), l, i, w, at, e)
				}
				sum += scalar.Size(k, w)
			}
			again, _ := run.Pack(k, words)
			if sum != len(b) || !bytes.Equal(again, b) {
				t.Fatalf("Pack of %s, %v: %v, %v", kind.Name(k), l, b, again)
			}
		}
	}
}
