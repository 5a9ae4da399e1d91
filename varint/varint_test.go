package varint_test

import (
	"bytes"
	"math"
	"math/big"
	"slices"
	"testing"

	"darning/api"
	"darning/bits"
	"darning/varint"
)

// words are those around each power of two, what lies opposite, and rows of mixed bits.
func words() []uint64 {
	l := []uint64{0, math.MaxUint64}
	for i := range 64 {
		p := uint64(1) << i
		l = append(l, p-1, p, p+1, -p, ^p)
	}
	w := uint64(1)
	for range 200 {
		w = w*6364136223846793005 + 1442695040888963407
		l = append(l, w, w>>32)
	}
	return l
}

// high is n bytes c (of 128 or more), and the tail behind them.
func high(n int, c byte, tail ...byte) []byte {
	return append(bytes.Repeat([]byte{c}, n), tail...)
}

// rows are all rows of at most three bytes from a few, behind up to eleven bytes of 128 or more.
func rows() [][]byte {
	few := []byte{0, 1, 2, 5, 64, 126, 127, 128, 129, 130, 200, 255}
	tails := [][]byte{{}}
	for from := 0; len(tails) < 1+12+144+1728; {
		upTo := len(tails)
		for _, t := range tails[from:upTo] {
			for _, c := range few {
				tails = append(tails, append(bytes.Clone(t), c))
			}
		}
		from = upTo
	}
	l := [][]byte{}
	for n := range 12 {
		for _, t := range tails {
			l = append(l, high(n, 255, t...), high(n, 128, t...), high(n, 170, t...))
		}
	}
	return l
}

// defined is the document's Read, reckoned with big numbers.
func defined(b []byte) (uint64, int, api.Code) {
	above := func(l []byte) bool { return !slices.ContainsFunc(l, func(c byte) bool { return c < 128 }) }
	if len(b) >= 10 && (above(b[:10]) || above(b[:9]) && b[9] >= 2 && b[9] <= 127) {
		return 0, 0, api.Over
	}
	last := slices.IndexFunc(b, func(c byte) bool { return c < 128 })
	if last < 0 {
		return 0, 0, api.Short
	}
	sum, times := big.NewInt(0), big.NewInt(1)
	for _, c := range b[:last+1] {
		sum.Add(sum, new(big.Int).Mul(big.NewInt(int64(c%128)), times))
		times.Mul(times, big.NewInt(128))
	}
	return sum.Uint64(), last + 1, api.Fine
}

// P2.1: Read is as the document defines it.
func TestRead(t *testing.T) {
	for _, b := range rows() {
		before := bytes.Clone(b)
		w, n, e := varint.Read(b)
		if dw, dn, de := defined(b); w != dw || n != dn || e != de {
			t.Fatalf("Read of %v: %d, %d, %v, not %d, %d, %v", b, w, n, e, dw, dn, de)
		}
		if !bytes.Equal(b, before) {
			t.Fatalf("Read changed %v to %v", before, b)
		}
	}
}

// P2.1: Read and Skip at the edges, and the chapter's examples.
func TestReadEdges(t *testing.T) {
	for _, c := range []struct {
		b []byte
		w uint64
		n int
		e api.Code
	}{
		{nil, 0, 0, api.Short},
		{[]byte{}, 0, 0, api.Short},
		{[]byte{0}, 0, 1, api.Fine},
		{[]byte{1}, 1, 1, api.Fine},
		{[]byte{127}, 127, 1, api.Fine},
		{[]byte{128}, 0, 0, api.Short},
		{[]byte{255}, 0, 0, api.Short},
		{[]byte{128, 128, 255}, 0, 0, api.Short},
		{[]byte{128, 1}, 128, 2, api.Fine},
		{[]byte{128, 0}, 0, 2, api.Fine},
		{[]byte{129, 0}, 1, 2, api.Fine},
		{[]byte{255, 128, 0}, 127, 3, api.Fine},
		{[]byte{172, 2}, 300, 2, api.Fine},
		{[]byte{172, 2, 128}, 300, 2, api.Fine},
		{[]byte{5, 172, 2}, 5, 1, api.Fine},
		{[]byte{255, 255, 255, 255, 15}, math.MaxUint32, 5, api.Fine},
		{high(8, 255), 0, 0, api.Short},
		{high(8, 255, 127), 1<<63 - 1, 9, api.Fine},
		{high(8, 128, 0), 0, 9, api.Fine},
		{high(8, 128, 64), 1 << 62, 9, api.Fine},
		{high(9, 255), 0, 0, api.Short},
		{high(9, 128), 0, 0, api.Short},
		{high(9, 255, 0), 1<<63 - 1, 10, api.Fine},
		{high(9, 255, 1), math.MaxUint64, 10, api.Fine},
		{high(9, 255, 2), 0, 0, api.Over},
		{high(9, 255, 3), 0, 0, api.Over},
		{high(9, 255, 127), 0, 0, api.Over},
		{high(9, 255, 128), 0, 0, api.Over},
		{high(9, 255, 129), 0, 0, api.Over},
		{high(9, 255, 255), 0, 0, api.Over},
		{high(9, 128, 0), 0, 10, api.Fine},
		{high(9, 128, 1), 1 << 63, 10, api.Fine},
		{high(9, 128, 2), 0, 0, api.Over},
		{high(9, 128, 127), 0, 0, api.Over},
		{high(9, 128, 128), 0, 0, api.Over},
		{high(9, 128, 1, 255, 255), 1 << 63, 10, api.Fine},
		{high(10, 128, 0), 0, 0, api.Over},
		{high(10, 128, 1), 0, 0, api.Over},
		{high(100, 255), 0, 0, api.Over},
	} {
		if w, n, e := varint.Read(c.b); w != c.w || n != c.n || e != c.e {
			t.Errorf("Read of %v: %d, %d, %v", c.b, w, n, e)
		}
		if n, e := varint.Skip(c.b); n != c.n || e != c.e {
			t.Errorf("Skip of %v: %d, %v", c.b, n, e)
		}
	}
}

// P2.1: Skip tells what Read does, but for the word.
func TestSkip(t *testing.T) {
	for _, b := range rows() {
		n, e := varint.Skip(b)
		if _, dn, de := defined(b); n != dn || e != de {
			t.Fatalf("Skip of %v: %d, %v, not %d, %v", b, n, e, dn, de)
		}
	}
}

// pieces is the minimal varint by division: the lowest seven bits first.
func pieces(w uint64) []byte {
	b := []byte{}
	for w > 127 {
		b = append(b, byte(w%128)+128)
		w /= 128
	}
	return append(b, byte(w))
}

// P2.2: Put lays the minimal varint behind the bytes.
func TestPut(t *testing.T) {
	for _, w := range words() {
		for _, b := range [][]byte{nil, {}, {0}, {255}, {128, 128}, high(20, 200, 3)} {
			before := bytes.Clone(b)
			if got := varint.Put(b, w); !bytes.Equal(got, append(bytes.Clone(b), pieces(w)...)) {
				t.Errorf("Put of %d behind %v: %v", w, b, got)
			}
			if !bytes.Equal(b, before) {
				t.Errorf("Put changed %v to %v", before, b)
			}
		}
	}
}

// P2.2: Put at the words' ends.
func TestPutEnds(t *testing.T) {
	for _, c := range []struct {
		w uint64
		b []byte
	}{
		{0, []byte{0}},
		{1, []byte{1}},
		{127, []byte{127}},
		{128, []byte{128, 1}},
		{300, []byte{172, 2}},
		{1<<14 - 1, []byte{255, 127}},
		{1 << 14, []byte{128, 128, 1}},
		{1<<63 - 1, high(8, 255, 127)},
		{1 << 63, high(9, 128, 1)},
		{math.MaxUint64, high(9, 255, 1)},
	} {
		if got := varint.Put(nil, c.w); !bytes.Equal(got, c.b) {
			t.Errorf("Put of %d: %v", c.w, got)
		}
	}
}

// P2.2: what Put tells is new memory, and the room behind what is handed in stays as it is.
func TestPutIsNew(t *testing.T) {
	room := []byte{1, 2, 9, 9, 9, 9}
	got := varint.Put(room[:2], 300)
	if !bytes.Equal(room, []byte{1, 2, 9, 9, 9, 9}) {
		t.Errorf("behind what was handed in: %v", room)
	}
	room[0] = 7
	if !bytes.Equal(got, []byte{1, 2, 172, 2}) {
		t.Errorf("told, and what was handed in changed: %v", got)
	}
	got[1] = 8
	if room[1] != 2 {
		t.Errorf("what was told changed, and with it what was handed in: %v", room)
	}
}

// P2.2: Minimal is as the document defines it.
func TestMinimal(t *testing.T) {
	for _, b := range rows() {
		_, n, e := defined(b)
		want := e == api.Fine && n == len(b) && (len(b) == 1 || b[len(b)-1] != 0)
		if got := varint.Minimal(b); got != want {
			t.Fatalf("Minimal of %v: %t", b, got)
		}
	}
}

// P2.2: Minimal at the edges, and the chapter's example.
func TestMinimalEdges(t *testing.T) {
	for _, b := range [][]byte{{0}, {1}, {127}, {128, 1}, {172, 2}, {128, 128, 1}, high(8, 128, 1), high(8, 255, 127), high(9, 128, 1), high(9, 255, 1)} {
		if !varint.Minimal(b) {
			t.Errorf("%v is told not to be minimal", b)
		}
	}
	for _, b := range [][]byte{
		nil, {}, {128}, {255}, {128, 0}, {129, 0}, {129, 128, 0}, high(8, 255), high(8, 255, 0), high(9, 255), high(9, 255, 0),
		high(9, 255, 2), high(9, 255, 127), high(9, 255, 128), high(10, 128, 1), {0, 0}, {1, 1}, {128, 1, 0}, {128, 1, 128}, {0, 128},
	} {
		if varint.Minimal(b) {
			t.Errorf("%v is told to be minimal", b)
		}
	}
}

// P2.2: All tells each word in its order, minimal or not, and the first error.
func TestAll(t *testing.T) {
	for _, c := range []struct {
		b []byte
		l []uint64
		e api.Code
	}{
		{nil, nil, api.Fine},
		{[]byte{}, nil, api.Fine},
		{[]byte{0}, []uint64{0}, api.Fine},
		{[]byte{0, 0, 127}, []uint64{0, 0, 127}, api.Fine},
		{[]byte{1, 172, 2, 128, 0}, []uint64{1, 300, 0}, api.Fine},
		{[]byte{128, 1, 128, 0}, []uint64{128, 0}, api.Fine},
		{append(high(9, 255, 1), high(9, 128, 0)...), []uint64{math.MaxUint64, 0}, api.Fine},
		{append(high(9, 128, 1), 3), []uint64{1 << 63, 3}, api.Fine},
		{[]byte{128}, nil, api.Short},
		{[]byte{1, 128}, nil, api.Short},
		{[]byte{1, 172, 2, 128, 128}, nil, api.Short},
		{append([]byte{5}, high(9, 255)...), nil, api.Short},
		{high(9, 255, 2), nil, api.Over},
		{high(10, 255), nil, api.Over},
		{append([]byte{5}, high(9, 255, 2)...), nil, api.Over},
		{append([]byte{5}, high(9, 255, 127, 5)...), nil, api.Over},
		{append([]byte{5}, high(9, 255, 128, 0)...), nil, api.Over},
		{high(9, 128, 2, 128), nil, api.Over},
	} {
		before := bytes.Clone(c.b)
		if l, e := varint.All(c.b); !slices.Equal(l, c.l) || e != c.e {
			t.Errorf("All of %v: %v, %v", c.b, l, e)
		}
		if !bytes.Equal(c.b, before) {
			t.Errorf("All changed %v to %v", before, c.b)
		}
	}
}

// P2.2: All is Read again and again, until the bytes end.
func TestAllIsReadOn(t *testing.T) {
	for _, b := range rows() {
		want, code := []uint64{}, api.Fine
		for rest := b; len(rest) > 0; {
			w, n, e := defined(rest)
			if e != api.Fine {
				want, code = nil, e
				break
			}
			want, rest = append(want, w), rest[n:]
		}
		if l, e := varint.All(b); !slices.Equal(l, want) || e != code {
			t.Fatalf("All of %v: %v, %v, not %v, %v", b, l, e, want, code)
		}
	}
}

// P2.2: All tells many, and what it tells is the caller's.
func TestAllOfMany(t *testing.T) {
	b := []byte{}
	for _, w := range words() {
		b = varint.Put(b, w)
	}
	l, e := varint.All(b)
	if !slices.Equal(l, words()) || e != api.Fine {
		t.Fatalf("All of the words put: %v, %v", l, e)
	}
	l[0] = 9
	if again, _ := varint.All(b); !slices.Equal(again, words()) {
		t.Errorf("told again: %v", again)
	}
	for n := 1; n < 10; n++ {
		if l, e := varint.All(append(bytes.Clone(b), high(n, 128)...)); len(l) != 0 || e != api.Short {
			t.Errorf("the last one cut off behind %d bytes: %v, %v", n, l, e)
		}
	}
}

// P2.3: what is put is read, and is minimal; it has bits.Len bytes.
func TestBackAgain(t *testing.T) {
	for _, w := range words() {
		b := varint.Put(nil, w)
		if len(b) != bits.Len(w) || !varint.Minimal(b) {
			t.Errorf("Put of %d: %v, minimal: %t", w, b, varint.Minimal(b))
		}
		if got, n, e := varint.Read(b); got != w || n != len(b) || e != api.Fine {
			t.Errorf("Read of %d put: %d, %d, %v", w, got, n, e)
		}
		if got, n, e := varint.Read(append(b, 255, 0)); got != w || n != bits.Len(w) || e != api.Fine {
			t.Errorf("Read of %d put, with bytes behind it: %d, %d, %v", w, got, n, e)
		}
		for cut := range b {
			if got, n, e := varint.Read(b[:cut]); got != 0 || n != 0 || e != api.Short {
				t.Errorf("Read of %d put, cut to %d bytes: %d, %d, %v", w, cut, got, n, e)
			}
		}
	}
}

// P2.3: a minimal varint is its word's, put; another of the same word is longer.
func TestMinimalIsPut(t *testing.T) {
	for _, b := range rows() {
		w, n, e := varint.Read(b)
		if e != api.Fine {
			continue
		}
		put := varint.Put(nil, w)
		if varint.Minimal(b[:n]) != bytes.Equal(b[:n], put) || len(put) > n || varint.Minimal(b[:n]) != (n == bits.Len(w)) {
			t.Fatalf("%v of the word %d; put: %v", b[:n], w, put)
		}
	}
}
