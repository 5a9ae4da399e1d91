package tag_test

import (
	"bytes"
	"math"
	"slices"
	"testing"

	"darning/api"
	"darning/tag"
	"darning/varint"
)

// numbers are those around each power of two, from 1 on, and at the ends.
func numbers() []int {
	l := []int{1, api.MaxNumber - 1, api.MaxNumber}
	for i := 1; i < 29; i++ {
		l = append(l, 1<<i-1, 1<<i, 1<<i+1)
	}
	n := int64(1)
	for range 100 {
		n = n*69069%api.MaxNumber + 1
		l = append(l, int(n))
	}
	return l
}

// wrongNumbers are too small, or too great; 8 times some of them goes round to 8 times a right one.
func wrongNumbers() []int {
	return []int{
		math.MinInt, math.MinInt + 1, math.MinInt32, -api.MaxNumber, -8, -1, 0,
		1 << 29, 1<<29 + 1, 1 << 30, math.MaxInt32, math.MaxInt>>2 + 2, math.MaxInt - 1, math.MaxInt,
	}
}

// wires are the wire types.
func wires() []int { return []int{0, 1, 2, 5} }

// wrongWires are not.
func wrongWires() []int {
	return []int{math.MinInt, math.MinInt32, -8, -3, -2, -1, 3, 4, 6, 7, 8, 9, 10, 13, 16, 256, math.MaxInt32, math.MaxInt}
}

// rightTags are all pairs of a number and a wire type.
func rightTags() []tag.Tag { return pairs(numbers(), wires()) }

// wrongTags have a wrong number, a wrong wire type, or both.
func wrongTags() []tag.Tag {
	l := pairs(wrongNumbers(), wires())
	l = append(l, pairs(numbers(), wrongWires())...)
	return append(l, pairs(wrongNumbers(), wrongWires())...)
}

// pairs are all of a number and a wire type.
func pairs(numbers, wires []int) []tag.Tag {
	l := []tag.Tag{}
	for _, n := range numbers {
		for _, w := range wires {
			l = append(l, tag.Tag{Number: n, Wire: w})
		}
	}
	return l
}

// word is the document's: 8 times the number, and the wire type more.
func word(t tag.Tag) uint64 { return 8*uint64(t.Number) + uint64(t.Wire) }

// minimal is a word's varint by division: the lowest seven bits first.
func minimal(w uint64) []byte {
	b := []byte{}
	for w > 127 {
		b = append(b, byte(w%128)+128)
		w /= 128
	}
	return append(b, byte(w))
}

// wider is a word's varint of n bytes (of more, where it needs them).
func wider(w uint64, n int) []byte {
	b := minimal(w)
	for len(b) < n {
		b[len(b)-1] |= 128
		b = append(b, 0)
	}
	return b
}

// defined is the document's Read, by the search for the wire type that leaves 8 times a number.
func defined(b []byte) (tag.Tag, int, api.Code) {
	w, n, e := varint.Read(b)
	if e != api.Fine {
		return tag.Tag{}, 0, e
	}
	for _, wire := range wires() {
		rest := w - uint64(wire)
		if w >= uint64(wire) && rest%8 == 0 && rest/8 >= 1 && rest/8 <= 536870911 {
			return tag.Tag{Number: int(rest / 8), Wire: wire}, n, api.Fine
		}
	}
	return tag.Tag{}, 0, api.Tag
}

// checkRead holds Read against the document's.
func checkRead(t *testing.T, b []byte) {
	t.Helper()
	before := bytes.Clone(b)
	x, n, e := tag.Read(b)
	if dx, dn, de := defined(b); x != dx || n != dn || e != de {
		t.Errorf("Read of %v: %v, %d, %v, not %v, %d, %v", b, x, n, e, dx, dn, de)
	}
	if !bytes.Equal(b, before) {
		t.Errorf("Read changed %v to %v", before, b)
	}
}

// P3.1: Right tells tags from others.
func TestRight(t *testing.T) {
	for _, x := range rightTags() {
		if !tag.Right(x) {
			t.Errorf("%v is told not to be right", x)
		}
	}
	for _, x := range wrongTags() {
		if tag.Right(x) {
			t.Errorf("%v is told to be right", x)
		}
	}
}

// P3.1: Right at the numbers' and the wire types' ends.
func TestRightEnds(t *testing.T) {
	for _, c := range []struct {
		t     tag.Tag
		right bool
	}{
		{tag.Tag{}, false},
		{tag.Tag{Number: 0, Wire: 2}, false},
		{tag.Tag{Number: 1, Wire: 0}, true},
		{tag.Tag{Number: 1, Wire: -1}, false},
		{tag.Tag{Number: 1, Wire: 1}, true},
		{tag.Tag{Number: 1, Wire: 2}, true},
		{tag.Tag{Number: 1, Wire: 3}, false},
		{tag.Tag{Number: 1, Wire: 4}, false},
		{tag.Tag{Number: 1, Wire: 5}, true},
		{tag.Tag{Number: 1, Wire: 6}, false},
		{tag.Tag{Number: 1, Wire: 7}, false},
		{tag.Tag{Number: 1, Wire: 8}, false},
		{tag.Tag{Number: -1, Wire: 0}, false},
		{tag.Tag{Number: 536870911, Wire: 0}, true},
		{tag.Tag{Number: 536870911, Wire: 5}, true},
		{tag.Tag{Number: 536870911, Wire: 6}, false},
		{tag.Tag{Number: 536870912, Wire: 0}, false},
		{tag.Tag{Number: 536870912, Wire: 5}, false},
	} {
		if tag.Right(c.t) != c.right {
			t.Errorf("Right of %v: %t", c.t, !c.right)
		}
	}
}

// P3.1: Read is as the document defines it, of all words of two pieces, and of short rows.
func TestReadOfShortRows(t *testing.T) {
	for w := range uint64(1 << 14) {
		checkRead(t, minimal(w))
		checkRead(t, append(wider(w, 3), 255))
	}
	few := []byte{0, 1, 2, 5, 8, 10, 13, 16, 18, 127, 128, 129, 136, 255}
	for _, a := range few {
		checkRead(t, []byte{a})
		for _, b := range few {
			checkRead(t, []byte{a, b})
			for _, c := range few {
				checkRead(t, []byte{a, b, c})
			}
		}
	}
}

// P3.1: Read of each right tag's word, minimal and not, with bytes behind it, and cut off.
func TestReadOfRightTags(t *testing.T) {
	for _, x := range rightTags() {
		for size := len(minimal(word(x))); size <= 10; size++ {
			b := wider(word(x), size)
			for _, behind := range [][]byte{nil, {0}, {255}, {8, 1}} {
				if got, n, e := tag.Read(append(bytes.Clone(b), behind...)); got != x || n != size || e != api.Fine {
					t.Errorf("Read of %v in %d bytes, %v behind it: %v, %d, %v", x, size, behind, got, n, e)
				}
			}
			for cut := range b {
				if got, n, e := tag.Read(b[:cut]); got != (tag.Tag{}) || n != 0 || e != api.Short {
					t.Errorf("Read of %v in %d bytes, cut to %d: %v, %d, %v", x, size, cut, got, n, e)
				}
			}
		}
	}
}

// wrongWords are no tags': of the number 0, of no wire type, or too great.
func wrongWords() []uint64 {
	l := []uint64{0, 1, 2, 3, 4, 5, 6, 7, math.MaxUint64, math.MaxUint64 - 2, math.MaxUint64 - 7}
	for _, n := range numbers() {
		for _, wire := range []uint64{3, 4, 6, 7} {
			l = append(l, 8*uint64(n)+wire)
		}
	}
	for i := 32; i < 64; i++ {
		for _, more := range []uint64{0, 1, 2, 3, 4, 5, 6, 7, 8, 13, 800, 1<<32 - 8} {
			l = append(l, 1<<i+more)
		}
	}
	return l
}

// P3.1: Read of words that are no tags', minimal and not.
func TestReadOfWrongWords(t *testing.T) {
	for _, w := range wrongWords() {
		for size := len(minimal(w)); size <= 10; size++ {
			b := append(wider(w, size), 8)
			if got, n, e := tag.Read(b); got != (tag.Tag{}) || n != 0 || e != api.Tag {
				t.Errorf("Read of the word %d in %d bytes: %v, %d, %v", w, size, got, n, e)
			}
			checkRead(t, b)
			checkRead(t, b[:size])
			checkRead(t, b[:size-1])
		}
	}
}

// high is n bytes c (of 128 or more), and the tail behind them.
func high(n int, c byte, tail ...byte) []byte {
	return append(bytes.Repeat([]byte{c}, n), tail...)
}

// P3.1: Read at the edges, and the chapter's examples.
func TestReadEdges(t *testing.T) {
	for _, c := range []struct {
		b []byte
		t tag.Tag
		n int
		e api.Code
	}{
		{[]byte{8}, tag.Tag{Number: 1}, 1, api.Fine},
		{[]byte{18}, tag.Tag{Number: 2, Wire: 2}, 1, api.Fine},
		{nil, tag.Tag{}, 0, api.Short},
		{[]byte{}, tag.Tag{}, 0, api.Short},
		{[]byte{0}, tag.Tag{}, 0, api.Tag},
		{[]byte{2}, tag.Tag{}, 0, api.Tag},
		{[]byte{7}, tag.Tag{}, 0, api.Tag},
		{[]byte{128, 0}, tag.Tag{}, 0, api.Tag},
		{[]byte{9}, tag.Tag{Number: 1, Wire: 1}, 1, api.Fine},
		{[]byte{10}, tag.Tag{Number: 1, Wire: 2}, 1, api.Fine},
		{[]byte{11}, tag.Tag{}, 0, api.Tag},
		{[]byte{12}, tag.Tag{}, 0, api.Tag},
		{[]byte{13}, tag.Tag{Number: 1, Wire: 5}, 1, api.Fine},
		{[]byte{14}, tag.Tag{}, 0, api.Tag},
		{[]byte{15}, tag.Tag{}, 0, api.Tag},
		{[]byte{125}, tag.Tag{Number: 15, Wire: 5}, 1, api.Fine},
		{[]byte{128, 1}, tag.Tag{Number: 16}, 2, api.Fine},
		{[]byte{136, 0}, tag.Tag{Number: 1}, 2, api.Fine},
		{[]byte{136, 128, 0, 8}, tag.Tag{Number: 1}, 3, api.Fine},
		{high(1, 146, 128, 128, 128, 128, 128, 128, 128, 128, 0), tag.Tag{Number: 2, Wire: 2}, 10, api.Fine},
		{[]byte{136}, tag.Tag{}, 0, api.Short},
		{[]byte{139}, tag.Tag{}, 0, api.Short},
		{[]byte{8, 128}, tag.Tag{Number: 1}, 1, api.Fine},
		{[]byte{248, 255, 255, 255, 15}, tag.Tag{Number: 536870911}, 5, api.Fine},
		{[]byte{253, 255, 255, 255, 15}, tag.Tag{Number: 536870911, Wire: 5}, 5, api.Fine},
		{[]byte{253, 255, 255, 255, 143, 0}, tag.Tag{Number: 536870911, Wire: 5}, 6, api.Fine},
		{[]byte{255, 255, 255, 255, 15}, tag.Tag{}, 0, api.Tag},
		{[]byte{128, 128, 128, 128, 16}, tag.Tag{}, 0, api.Tag},
		{[]byte{136, 128, 128, 128, 16}, tag.Tag{}, 0, api.Tag},
		{[]byte{136, 128, 128, 128, 128, 1}, tag.Tag{}, 0, api.Tag},
		{[]byte{136, 128, 128, 128, 16 + 128}, tag.Tag{}, 0, api.Short},
		{high(9, 255), tag.Tag{}, 0, api.Short},
		{high(9, 255, 1), tag.Tag{}, 0, api.Tag},
		{high(9, 255, 2), tag.Tag{}, 0, api.Over},
		{high(9, 136, 2), tag.Tag{}, 0, api.Over},
		{high(10, 128, 0), tag.Tag{}, 0, api.Over},
		{high(10, 136), tag.Tag{}, 0, api.Over},
	} {
		if x, n, e := tag.Read(c.b); x != c.t || n != c.n || e != c.e {
			t.Errorf("Read of %v: %v, %d, %v", c.b, x, n, e)
		}
	}
}

// P3.2: Put lays the tag's minimal varint behind the bytes.
func TestPut(t *testing.T) {
	for _, x := range rightTags() {
		for _, b := range [][]byte{nil, {}, {0}, {8}, {255, 128}, high(20, 200, 3)} {
			before := bytes.Clone(b)
			got, e := tag.Put(b, x)
			if !bytes.Equal(got, append(bytes.Clone(b), minimal(word(x))...)) || e != api.Fine {
				t.Errorf("Put of %v behind %v: %v, %v", x, b, got, e)
			}
			if !bytes.Equal(b, before) {
				t.Errorf("Put changed %v to %v", before, b)
			}
		}
	}
}

// P3.2: Put tells Arg, and nothing, of what can't be a tag.
func TestPutOfWrongTags(t *testing.T) {
	for _, x := range wrongTags() {
		for _, b := range [][]byte{nil, {}, {8, 1}} {
			if got, e := tag.Put(b, x); len(got) != 0 || e != api.Arg {
				t.Errorf("Put of %v behind %v: %v, %v", x, b, got, e)
			}
		}
	}
}

// P3.2: Put at the ends, and the chapter's examples.
func TestPutEnds(t *testing.T) {
	for _, c := range []struct {
		t tag.Tag
		b []byte
		e api.Code
	}{
		{tag.Tag{Number: 1}, []byte{8}, api.Fine},
		{tag.Tag{Number: 2, Wire: 2}, []byte{18}, api.Fine},
		{tag.Tag{Number: 15, Wire: 5}, []byte{125}, api.Fine},
		{tag.Tag{Number: 16}, []byte{128, 1}, api.Fine},
		{tag.Tag{Number: 16, Wire: 2}, []byte{130, 1}, api.Fine},
		{tag.Tag{Number: 536870911}, []byte{248, 255, 255, 255, 15}, api.Fine},
		{tag.Tag{Number: 536870911, Wire: 5}, []byte{253, 255, 255, 255, 15}, api.Fine},
		{tag.Tag{}, nil, api.Arg},
		{tag.Tag{Number: 0, Wire: 5}, nil, api.Arg},
		{tag.Tag{Number: 536870912}, nil, api.Arg},
		{tag.Tag{Number: -1, Wire: 1}, nil, api.Arg},
		{tag.Tag{Number: 1, Wire: -1}, nil, api.Arg},
		{tag.Tag{Number: 1, Wire: 3}, nil, api.Arg},
		{tag.Tag{Number: 1, Wire: 4}, nil, api.Arg},
		{tag.Tag{Number: 1, Wire: 8}, nil, api.Arg},
	} {
		if got, e := tag.Put(nil, c.t); !bytes.Equal(got, c.b) || e != c.e {
			t.Errorf("Put of %v: %v, %v", c.t, got, e)
		}
	}
}

// P3.2: what Put tells is new memory, and the room behind what is handed in stays as it is.
func TestPutIsNew(t *testing.T) {
	room := []byte{1, 2, 9, 9, 9, 9}
	got, e := tag.Put(room[:2], tag.Tag{Number: 16, Wire: 2})
	if !bytes.Equal(room, []byte{1, 2, 9, 9, 9, 9}) || e != api.Fine {
		t.Errorf("behind what was handed in: %v, %v", room, e)
	}
	room[0] = 7
	if !bytes.Equal(got, []byte{1, 2, 130, 1}) {
		t.Errorf("told, and what was handed in changed: %v", got)
	}
	got[1] = 8
	if room[1] != 2 {
		t.Errorf("what was told changed, and with it what was handed in: %v", room)
	}
}

// P3.2: Size is how many bytes the minimal varint has, 0 of what can't be a tag.
func TestSize(t *testing.T) {
	for _, x := range rightTags() {
		if got := tag.Size(x); got != len(minimal(word(x))) {
			t.Errorf("Size of %v: %d", x, got)
		}
	}
	for _, x := range wrongTags() {
		if got := tag.Size(x); got != 0 {
			t.Errorf("Size of %v: %d", x, got)
		}
	}
}

// P3.2: Size where it grows, and at the numbers' ends.
func TestSizeEnds(t *testing.T) {
	for n, size := range map[int]int{
		math.MinInt: 0, -1: 0, 0: 0, 1: 1, 15: 1, 16: 2, 2047: 2, 2048: 3, 262143: 3, 262144: 4,
		33554431: 4, 33554432: 5, 536870911: 5, 536870912: 0, math.MaxInt: 0,
	} {
		for _, wire := range wires() {
			if got := tag.Size(tag.Tag{Number: n, Wire: wire}); got != size {
				t.Errorf("Size of the number %d, the wire type %d: %d", n, wire, got)
			}
		}
	}
	for _, wire := range wrongWires() {
		if got := tag.Size(tag.Tag{Number: 1, Wire: wire}); got != 0 {
			t.Errorf("Size of the number 1, the wire type %d: %d", wire, got)
		}
	}
}

// P3.2: Less is told by the number first, by the wire type then.
func TestLess(t *testing.T) {
	for _, c := range []struct {
		a, b tag.Tag
		less bool
	}{
		{tag.Tag{}, tag.Tag{}, false},
		{tag.Tag{Number: 1, Wire: 1}, tag.Tag{Number: 1, Wire: 1}, false},
		{tag.Tag{Number: 1, Wire: 0}, tag.Tag{Number: 1, Wire: 1}, true},
		{tag.Tag{Number: 1, Wire: 2}, tag.Tag{Number: 1, Wire: 5}, true},
		{tag.Tag{Number: 1, Wire: 5}, tag.Tag{Number: 1, Wire: 2}, false},
		{tag.Tag{Number: 1, Wire: 0}, tag.Tag{Number: 2, Wire: 0}, true},
		{tag.Tag{Number: 2, Wire: 0}, tag.Tag{Number: 1, Wire: 0}, false},
		{tag.Tag{Number: 1, Wire: 5}, tag.Tag{Number: 2, Wire: 0}, true},
		{tag.Tag{Number: 2, Wire: 0}, tag.Tag{Number: 1, Wire: 5}, false},
		{tag.Tag{Number: 2, Wire: 1}, tag.Tag{Number: 10, Wire: 0}, true},
		{tag.Tag{Number: 536870910, Wire: 5}, tag.Tag{Number: 536870911, Wire: 0}, true},
		{tag.Tag{Number: 536870911, Wire: 0}, tag.Tag{Number: 1, Wire: 5}, false},
	} {
		if tag.Less(c.a, c.b) != c.less {
			t.Errorf("Less of %v, %v: %t", c.a, c.b, !c.less)
		}
	}
}

// P3.2: Less of right tags is what it is of their words.
func TestLessIsOfWords(t *testing.T) {
	l := pairs([]int{1, 2, 3, 4, 15, 16, 17, 255, 256, 65535, 65536, api.MaxNumber - 1, api.MaxNumber}, wires())
	for _, a := range l {
		for _, b := range l {
			if got := tag.Less(a, b); got != (word(a) < word(b)) {
				t.Errorf("Less of %v, %v: %t", a, b, got)
			}
		}
	}
}

// P3.2: Less asks the numbers alone, of what can't be a tag, too, up to the ends of an int.
func TestLessAtAllNumbers(t *testing.T) {
	ends := []int{math.MinInt, math.MinInt + 1, -2, -1, 0, 1, 2, 3, 8, 9, math.MaxInt - 1, math.MaxInt}
	for i, a := range ends {
		for j, b := range ends {
			for k, c := range ends {
				for m, d := range ends {
					got := tag.Less(tag.Tag{Number: a, Wire: c}, tag.Tag{Number: b, Wire: d})
					if want := i < j || i == j && k < m; got != want {
						t.Errorf("Less of {%d %d}, {%d %d}: %t", a, c, b, d, got)
					}
				}
			}
		}
	}
}

// P3.2: tags that are put in order by Less stand by numbers, then by wire types.
func TestLessPutsInOrder(t *testing.T) {
	l := []tag.Tag{{2, 0}, {1, 5}, {16, 1}, {1, 0}, {2, 2}, {1, 1}, {2, 1}}
	slices.SortFunc(l, func(a, b tag.Tag) int {
		if tag.Less(a, b) {
			return -1
		}
		if tag.Less(b, a) {
			return 1
		}
		return 0
	})
	if !slices.Equal(l, []tag.Tag{{1, 0}, {1, 1}, {1, 5}, {2, 0}, {2, 1}, {2, 2}, {16, 1}}) {
		t.Errorf("in order: %v", l)
	}
}

// P3.1: a tag is a map's key: one number and wire type are one key, however they were read.
func TestTagIsKey(t *testing.T) {
	met := map[tag.Tag]int{}
	b := []byte{8, 136, 0, 10, 13, 16, 136, 128, 0, 138, 0}
	for len(b) > 0 {
		x, n, e := tag.Read(b)
		if n < 1 || n > len(b) || e != api.Fine {
			t.Fatalf("Read of %v: %d, %v", b, n, e)
		}
		met[x]++
		b = b[n:]
	}
	if len(met) != 4 || met[tag.Tag{Number: 1}] != 3 || met[tag.Tag{Number: 1, Wire: 2}] != 2 || met[tag.Tag{Number: 1, Wire: 5}] != 1 || met[tag.Tag{Number: 2}] != 1 {
		t.Errorf("met: %v", met)
	}
}

// P3.3: what is put is read; it has Size bytes, and they are minimal.
func TestBackAgain(t *testing.T) {
	for _, x := range rightTags() {
		b, e := tag.Put(nil, x)
		if e != api.Fine || len(b) != tag.Size(x) || !varint.Minimal(b) {
			t.Errorf("Put of %v: %v, %v; Size: %d", x, b, e, tag.Size(x))
		}
		if got, n, e := tag.Read(b); got != x || n != len(b) || e != api.Fine {
			t.Errorf("Read of %v put: %v, %d, %v", x, got, n, e)
		}
		if got, n, e := tag.Read(append(b, 255, 0)); got != x || n != tag.Size(x) || e != api.Fine {
			t.Errorf("Read of %v put, with bytes behind it: %v, %d, %v", x, got, n, e)
		}
	}
}

// P3.3: tags that are put behind each other are read one behind the other.
func TestBackAgainInARow(t *testing.T) {
	b := []byte{}
	for _, x := range rightTags() {
		next, e := tag.Put(b, x)
		if e != api.Fine {
			t.Fatalf("Put of %v: %v", x, e)
		}
		b = next
	}
	for _, x := range rightTags() {
		got, n, e := tag.Read(b)
		if got != x || e != api.Fine {
			t.Fatalf("Read of %v put in a row: %v, %v", x, got, e)
		}
		b = b[n:]
	}
	if len(b) != 0 {
		t.Errorf("left in the end: %v", b)
	}
}

// P3.3: what is read is right, and put again it is the same bytes, or fewer, if they weren't minimal.
func TestPutOfWhatIsRead(t *testing.T) {
	for w := range uint64(1 << 12) {
		for size := len(minimal(w)); size <= 10; size++ {
			b := wider(w, size)
			x, n, e := tag.Read(b)
			if e != api.Fine {
				continue
			}
			put, _ := tag.Put(nil, x)
			if !tag.Right(x) || len(put) > n || varint.Minimal(b) != bytes.Equal(put, b) {
				t.Fatalf("%v, %d of %v; put: %v", x, n, b, put)
			}
		}
	}
}
