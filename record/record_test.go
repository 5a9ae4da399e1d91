package record_test

import (
	"bytes"
	"math"
	"slices"
	"testing"

	"darning/api"
	"darning/record"
	"darning/tag"
	"darning/varint"
)

// wires are the wire types.
func wires() []int { return []int{0, 1, 2, 5} }

// numbers are those at which tags grow, and the ends.
func numbers() []int {
	return []int{1, 2, 15, 16, 17, 2047, 2048, 262143, 262144, 33554431, 33554432, api.MaxNumber - 1, api.MaxNumber}
}

// wrongNumbers are too small, or too great; 8 times some of them goes round to 8 times a right one.
func wrongNumbers() []int {
	return []int{
		math.MinInt, math.MinInt + 1, math.MinInt32, -api.MaxNumber, -1, 0,
		1 << 29, 1<<29 + 1, 1 << 30, math.MaxInt32, math.MaxInt>>2 + 2, math.MaxInt - 1, math.MaxInt,
	}
}

// wrongWires are no wire types.
func wrongWires() []int {
	return []int{math.MinInt, math.MinInt32, -8, -6, -3, -2, -1, 3, 4, 6, 7, 8, 9, 10, 13, 16, 256, 258, math.MaxInt32, math.MaxInt}
}

// wider is a word's varint of n bytes (of more, where it needs them).
func wider(w uint64, n int) []byte {
	b := varint.Put(nil, w)
	for len(b) < n {
		b[len(b)-1] |= 128
		b = append(b, 0)
	}
	return b
}

// high is n bytes c (of 128 or more), and the tail behind them.
func high(n int, c byte, tail ...byte) []byte {
	return append(bytes.Repeat([]byte{c}, n), tail...)
}

// join puts rows one behind the other.
func join(rows ...[]byte) []byte { return bytes.Join(rows, nil) }

// word is a tag's: 8 times the number, and the wire type more.
func word(number, wire int) uint64 { return 8*uint64(number) + uint64(wire) }

// values are some that a record of the wire type may have.
func values(wire int) [][]byte {
	switch wire {
	case 0:
		return [][]byte{
			{0}, {1}, {127}, {128, 0}, {128, 1}, {172, 2}, {129, 128, 0}, high(8, 255, 127), high(9, 255, 1), high(9, 128, 0),
		}
	case 1:
		return [][]byte{bytes.Repeat([]byte{0}, 8), {1, 2, 3, 4, 5, 6, 7, 8}, bytes.Repeat([]byte{255}, 8)}
	case 5:
		return [][]byte{{0, 0, 0, 0}, {1, 2, 3, 4}, {255, 255, 255, 255}}
	}
	l := [][]byte{nil, {}, {0}, {255}, []byte("hi"), {8, 1, 18, 0}}
	for _, n := range []int{8, 126, 127, 128, 129, 300, 16383, 16384} {
		l = append(l, bytes.Repeat([]byte{170}, n))
	}
	return l
}

// wrongValues are some that no record of the wire type has (of 2 there are none).
func wrongValues(wire int) [][]byte {
	switch wire {
	case 0:
		return [][]byte{
			nil, {}, {128}, {255, 255}, {0, 0}, {1, 1}, {128, 1, 0}, {1, 128}, high(9, 255), high(9, 255, 2), high(9, 128, 127),
			high(10, 128), high(10, 128, 0), high(9, 255, 1, 0), high(9, 255, 1, 128),
		}
	case 1:
		return [][]byte{nil, {}, {1}, {1, 2, 3, 4}, make([]byte, 7), make([]byte, 9), make([]byte, 16)}
	case 5:
		return [][]byte{nil, {}, {1}, {1, 2, 3}, {1, 2, 3, 4, 5}, make([]byte, 8)}
	}
	return nil
}

// laid is a record's bytes by the document: the tag of so many bytes, the length of so many (of 2), the value;
// beside it where the value begins.
func laid(number, wire int, value []byte, tagSize, lengthSize int) (b []byte, at int) {
	b = wider(word(number, wire), tagSize)
	if wire == 2 {
		b = append(b, wider(uint64(len(value)), lengthSize)...)
	}
	return join(b, value), len(b)
}

// ends tells by the document whether a value that begins at a place may end at another one; ahead is a length (of 2).
func ends(b []byte, wire, at, to int, length uint64) bool {
	switch wire {
	case 0:
		return to > at && b[to-1] < 128 && !slices.ContainsFunc(b[at:to-1], func(c byte) bool { return c < 128 })
	case 1:
		return to-at == 8
	case 5:
		return to-at == 4
	}
	return uint64(to-at) == length
}

// defined is the document's Next, by the search for the place at which the record ends.
func defined(b []byte, from int) (record.Record, api.Code) {
	if from < 0 || from >= len(b) {
		return record.Record{}, api.Arg
	}
	t, n, e := tag.Read(b[from:])
	if e != api.Fine {
		return record.Record{}, e
	}
	at, length := from+n, uint64(0)
	if t.Wire == 0 || t.Wire == 2 {
		w, n, e := varint.Read(b[at:])
		if e != api.Fine {
			return record.Record{}, e
		}
		if t.Wire == 2 {
			at, length = at+n, w
		}
	}
	for to := at; to <= len(b); to++ {
		if ends(b, t.Wire, at, to, length) {
			return record.Record{Number: t.Number, Wire: t.Wire, From: from, At: at, To: to}, api.Fine
		}
	}
	return record.Record{}, api.Short
}

// definedSplit is the document's Split.
func definedSplit(b []byte) ([]record.Record, int, api.Code) {
	l := []record.Record{}
	for from := 0; from < len(b); {
		r, e := defined(b, from)
		if e != api.Fine {
			return nil, from, e
		}
		l, from = append(l, r), r.To
	}
	return l, 0, api.Fine
}

// check holds Next, from each place on, and Split against the document's.
func check(t *testing.T, b []byte) {
	t.Helper()
	before := bytes.Clone(b)
	for from := -1; from <= len(b)+1; from++ {
		r, e := record.Next(b, from)
		if dr, de := defined(b, from); r != dr || e != de {
			t.Errorf("Next of %v from %d on: %v, %v, not %v, %v", b, from, r, e, dr, de)
		}
	}
	l, place, e := record.Split(b)
	if dl, dplace, de := definedSplit(b); !slices.Equal(l, dl) || place != dplace || e != de {
		t.Errorf("Split of %v: %v, %d, %v, not %v, %d, %v", b, l, place, e, dl, dplace, de)
	}
	if !bytes.Equal(b, before) {
		t.Errorf("Next or Split changed %v to %v", before, b)
	}
}

// some are right records of all wire types, one behind the other, with tags and lengths that are minimal, or not.
func some() []byte {
	b := []byte{}
	for i, wire := range wires() {
		for j, value := range values(wire) {
			r, _ := laid(numbers()[(i+j)%len(numbers())], wire, value[:min(len(value), 200)], 1+j%4, 1+j%3)
			b = append(b, r...)
		}
	}
	return b
}

// P5.1: Next and Split of all rows of up to five of some bytes, from each place on.
func TestShortRows(t *testing.T) {
	rows := [][]byte{nil}
	for range 5 {
		longer := [][]byte{}
		for _, row := range rows {
			check(t, row)
			for _, c := range []byte{0, 1, 2, 3, 8, 10, 11, 13, 128, 138} {
				longer = append(longer, append(bytes.Clone(row), c))
			}
		}
		rows = longer
	}
	for _, row := range rows {
		check(t, row)
	}
}

// P5.1: Next and Split of rows of one or two bytes, behind each wire type's tag, in front of more.
func TestRowsBehindTags(t *testing.T) {
	for _, head := range [][]byte{{8}, {9}, {10}, {11}, {12}, {13}, {14}, {15}, {138, 0}, {8, 128}, {10, 128}} {
		for c := range 256 {
			for _, behind := range [][]byte{nil, {0}, {8, 1}, bytes.Repeat([]byte{8, 1}, 4), bytes.Repeat([]byte{8}, 7)} {
				check(t, join(head, []byte{byte(c)}, behind))
			}
		}
	}
}

// P5.1: Next of each number and wire type, in tags and lengths that are minimal, or not, with bytes ahead and behind.
func TestNext(t *testing.T) {
	for _, number := range numbers() {
		for _, wire := range wires() {
			for i, value := range values(wire) {
				for size := range 11 {
					b, at := laid(number, wire, value, size, 10-size)
					ahead := bytes.Repeat([]byte{255}, i%3)
					for _, behind := range [][]byte{nil, {0}, {255}, {8, 1}} {
						got, e := record.Next(join(ahead, b, behind), len(ahead))
						from := len(ahead)
						if want := (record.Record{Number: number, Wire: wire, From: from, At: from + at, To: from + len(b)}); got != want || e != api.Fine {
							t.Errorf("Next of %d, %d, a value of %d bytes: %v, %v, not %v", number, wire, len(value), got, e, want)
						}
					}
				}
			}
		}
	}
}

// P5.1: a record that is cut off anywhere is Short; of nothing that is left, its place is Arg.
func TestNextCutOff(t *testing.T) {
	for _, number := range numbers() {
		for _, wire := range wires() {
			for i, value := range values(wire) {
				b, _ := laid(number, wire, value[:min(len(value), 300)], i%10, i%4)
				for cut := 1; cut < len(b); cut++ {
					if r, e := record.Next(b[:cut], 0); r != (record.Record{}) || e != api.Short {
						t.Errorf("Next of %v, cut to %d: %v, %v", b, cut, r, e)
					}
				}
				if r, e := record.Next(b[:0], 0); r != (record.Record{}) || e != api.Arg {
					t.Errorf("Next of nothing: %v, %v", r, e)
				}
			}
		}
	}
}

// P5.1: places that aren't of the bytes are Arg, ahead of all else.
func TestNextPlaces(t *testing.T) {
	for _, b := range [][]byte{nil, {}, {8, 1}, {0}, {11}, {128}, high(10, 255), some()} {
		for _, from := range []int{
			math.MinInt, math.MinInt + 1, math.MinInt32, -2, -1, len(b), len(b) + 1, len(b) + 2, math.MaxInt32, math.MaxInt - 1, math.MaxInt,
		} {
			if r, e := record.Next(b, from); r != (record.Record{}) || e != api.Arg {
				t.Errorf("Next of %d bytes from %d on: %v, %v", len(b), from, r, e)
			}
		}
	}
	room := []byte{8, 1, 16, 2}
	if r, e := record.Next(room[:2], 2); r != (record.Record{}) || e != api.Arg {
		t.Errorf("Next from the end on, with room behind it: %v, %v", r, e)
	}
	if r, e := record.Next(room[:3], 2); r != (record.Record{}) || e != api.Short {
		t.Errorf("Next of a tag at the end, with room behind it: %v, %v", r, e)
	}
}

// P5.1: Next at the edges, each error, and which of two comes first.
func TestNextEdges(t *testing.T) {
	for _, c := range []struct {
		b []byte
		r record.Record
		e api.Code
	}{
		{[]byte{8, 1}, record.Record{Number: 1, At: 1, To: 2}, api.Fine},
		{[]byte{8, 128, 0, 8}, record.Record{Number: 1, At: 1, To: 3}, api.Fine},
		{join([]byte{8}, high(9, 255, 1)), record.Record{Number: 1, At: 1, To: 11}, api.Fine},
		{[]byte{10, 0}, record.Record{Number: 1, Wire: 2, At: 2, To: 2}, api.Fine},
		{[]byte{10, 128, 0}, record.Record{Number: 1, Wire: 2, At: 3, To: 3}, api.Fine},
		{[]byte{138, 0, 129, 0, 7}, record.Record{Number: 1, Wire: 2, At: 4, To: 5}, api.Fine},
		{join([]byte{10}, high(9, 129, 0), []byte{1}), record.Record{}, api.Short},
		{join([]byte{10}, high(1, 129), high(8, 128, 0), []byte{1}), record.Record{Number: 1, Wire: 2, At: 11, To: 12}, api.Fine},
		{[]byte{9, 1, 2, 3, 4, 5, 6, 7, 8}, record.Record{Number: 1, Wire: 1, At: 1, To: 9}, api.Fine},
		{[]byte{9, 1, 2, 3, 4, 5, 6, 7}, record.Record{}, api.Short},
		{[]byte{13, 1, 2, 3, 4}, record.Record{Number: 1, Wire: 5, At: 1, To: 5}, api.Fine},
		{[]byte{13, 1, 2, 3}, record.Record{}, api.Short},
		{[]byte{13}, record.Record{}, api.Short},
		{[]byte{9}, record.Record{}, api.Short},
		{[]byte{8}, record.Record{}, api.Short},
		{[]byte{10}, record.Record{}, api.Short},
		{[]byte{10, 1}, record.Record{}, api.Short},
		{[]byte{10, 2, 0}, record.Record{}, api.Short},
		{[]byte{10, 128}, record.Record{}, api.Short},
		{[]byte{8, 128}, record.Record{}, api.Short},
		{[]byte{136}, record.Record{}, api.Short},
		{[]byte{0, 1}, record.Record{}, api.Tag},
		{[]byte{2, 0}, record.Record{}, api.Tag},
		{[]byte{11, 12}, record.Record{}, api.Tag},
		{[]byte{12}, record.Record{}, api.Tag},
		{[]byte{14, 1}, record.Record{}, api.Tag},
		{[]byte{15, 1}, record.Record{}, api.Tag},
		{join([]byte{11}, high(10, 255)), record.Record{}, api.Tag},
		{[]byte{136, 128, 128, 128, 16, 1}, record.Record{}, api.Tag},
		{[]byte{248, 255, 255, 255, 15, 1}, record.Record{Number: 536870911, At: 5, To: 6}, api.Fine},
		{high(10, 136), record.Record{}, api.Over},
		{high(9, 136, 2), record.Record{}, api.Over},
		{join([]byte{8}, high(9, 255, 2)), record.Record{}, api.Over},
		{join([]byte{8}, high(10, 128)), record.Record{}, api.Over},
		{join([]byte{10}, high(9, 255, 2)), record.Record{}, api.Over},
		{join([]byte{10}, high(10, 255)), record.Record{}, api.Over},
		{join([]byte{9}, high(10, 255)), record.Record{Number: 1, Wire: 1, At: 1, To: 9}, api.Fine},
		{join([]byte{13}, high(10, 255)), record.Record{Number: 1, Wire: 5, At: 1, To: 5}, api.Fine},
	} {
		if r, e := record.Next(c.b, 0); r != c.r || e != c.e {
			t.Errorf("Next of %v: %v, %v, not %v, %v", c.b, r, e, c.r, c.e)
		}
	}
}

// P5.1: lengths that no bytes have are Short; with the places ahead of them some would go round.
func TestGreatLengths(t *testing.T) {
	lengths := []uint64{math.MaxUint64, math.MaxUint64 - 1, 1 << 63, 1<<63 + 1, math.MaxInt64, math.MaxInt64 - 1}
	for i := 8; i < 64; i++ {
		lengths = append(lengths, 1<<i-1, 1<<i, 1<<i+1, 1<<i+8)
	}
	for n := range uint64(40) {
		lengths = append(lengths, -n-1, 1<<63-n-1, 1<<32-n-1, 1<<31-n-1)
	}
	for _, length := range lengths {
		for _, ahead := range [][]byte{nil, {8, 1}, {8, 1, 16, 2, 24, 3}} {
			b := join(ahead, []byte{18}, varint.Put(nil, length), make([]byte, 20))
			if r, e := record.Next(b, len(ahead)); r != (record.Record{}) || e != api.Short {
				t.Errorf("Next of a length of %d: %v, %v", length, r, e)
			}
			if l, place, e := record.Split(b); len(l) != 0 || place != len(ahead) || e != api.Short {
				t.Errorf("Split of a length of %d: %v, %d, %v", length, l, place, e)
			}
		}
	}
}

// P5.1: the chapter's example, and bytes of no record.
func TestSplitExamples(t *testing.T) {
	l, place, e := record.Split([]byte{8, 1, 18, 1, 97})
	want := []record.Record{{Number: 1, To: 2, At: 1}, {Number: 2, Wire: 2, From: 2, At: 4, To: 5}}
	if !slices.Equal(l, want) || place != 0 || e != api.Fine {
		t.Errorf("Split of the example: %v, %d, %v", l, place, e)
	}
	for _, b := range [][]byte{nil, {}} {
		if l, place, e := record.Split(b); len(l) != 0 || place != 0 || e != api.Fine {
			t.Errorf("Split of nothing: %v, %d, %v", l, place, e)
		}
	}
}

// P5.1: Split tells the place of the first record that can't be read, behind all that can, and why.
func TestSplitFaults(t *testing.T) {
	for _, c := range []struct {
		fault []byte
		e     api.Code
	}{
		{[]byte{8}, api.Short},
		{[]byte{136}, api.Short},
		{[]byte{10, 3, 8, 1}, api.Short},
		{[]byte{13, 8, 1, 8}, api.Short},
		{[]byte{9, 8, 1, 8, 1, 8, 1, 8}, api.Short},
		{[]byte{0}, api.Tag},
		{[]byte{11, 8, 1, 12}, api.Tag},
		{[]byte{15, 8}, api.Tag},
		{[]byte{128, 0, 8}, api.Tag},
		{high(10, 255, 8, 1), api.Over},
		{join([]byte{8}, high(9, 255, 2), []byte{11}), api.Over},
		{join([]byte{10}, high(10, 128), []byte{8, 1}), api.Over},
	} {
		for _, ahead := range [][]byte{nil, {8, 1}, {18, 2, 11, 12}, {18, 0, 16, 0}, some()} {
			if l, place, e := record.Split(join(ahead, c.fault)); len(l) != 0 || place != len(ahead) || e != c.e {
				t.Errorf("Split of %v behind %d bytes: %v, %d, %v", c.fault, len(ahead), l, place, e)
			}
		}
	}
}

// P5.1: bytes cut off anywhere are as they are defined: told, where a record ends; else Short, and that one's place.
func TestSplitCutOff(t *testing.T) {
	b := some()
	all, _, e := record.Split(b)
	if want := len(values(0)) + len(values(1)) + len(values(2)) + len(values(5)); len(all) != want || e != api.Fine {
		t.Fatalf("Split of %d records: %v, %v", want, all, e)
	}
	for i, r := range all {
		if l, place, e := record.Split(b[:r.To]); !slices.Equal(l, all[:i+1]) || place != 0 || e != api.Fine {
			t.Errorf("Split of the first %d: %v, %d, %v", i+1, l, place, e)
		}
		for cut := r.From + 1; cut < r.To; cut++ {
			if l, place, e := record.Split(b[:cut]); len(l) != 0 || place != r.From || e != api.Short {
				t.Errorf("Split of what is cut at %d: %v, %d, %v", cut, l, place, e)
			}
		}
	}
}

// P5.1: Split of many, and what it tells is the caller's.
func TestSplitOfMany(t *testing.T) {
	b := bytes.Repeat([]byte{8, 1, 18, 1, 97}, 50000)
	l, _, e := record.Split(b)
	if len(l) != 100000 || e != api.Fine {
		t.Fatalf("%d records, %v", len(l), e)
	}
	for i, r := range l {
		if r.From != i/2*5+i%2*2 || r.Number != 1+i%2 || r.At != r.From+1+i%2 || r.To != r.From+2+i%2 {
			t.Fatalf("the record %d: %v", i, r)
		}
	}
	l[0] = record.Record{}
	if again, _, _ := record.Split(b); again[0] != (record.Record{Number: 1, At: 1, To: 2}) {
		t.Errorf("told again: %v", again[0])
	}
}

// P5.2: Value and Whole are the bytes between the places, where these are of b and don't fall; else none.
func TestPieces(t *testing.T) {
	b := []byte("abcdefg")
	places := []int{math.MinInt, math.MinInt + 1, math.MinInt32, -8, -7, -2, -1}
	for i := range len(b) + 4 {
		places = append(places, i)
	}
	places = append(places, math.MaxInt32, math.MaxInt-1, math.MaxInt)
	for _, from := range places {
		for _, to := range places {
			want := []byte{}
			for i := range b {
				if from >= 0 && to <= len(b) && i >= from && i < to {
					want = append(want, b[i])
				}
			}
			if got := record.Value(b, record.Record{At: from, To: to}); !bytes.Equal(got, want) {
				t.Errorf("Value from %d to %d: %q, not %q", from, to, got, want)
			}
			if got := record.Whole(b, record.Record{From: from, At: from, To: to}); !bytes.Equal(got, want) {
				t.Errorf("Whole from %d to %d: %q, not %q", from, to, got, want)
			}
			r := record.Record{From: from, At: from, To: to}
			if len(record.Value(nil, r)) != 0 || len(record.Whole(nil, r)) != 0 {
				t.Errorf("of nothing, from %d to %d there is something", from, to)
			}
		}
	}
	if string(b) != "abcdefg" {
		t.Errorf("changed: %q", b)
	}
}

// P5.2: Value and Whole don't reach into the room behind what is handed in.
func TestPiecesOfRoom(t *testing.T) {
	b := []byte("abcdefg")[:3]
	if got := record.Value(b, record.Record{At: 1, To: 4}); len(got) != 0 {
		t.Errorf("Value: %q", got)
	}
	if got := record.Whole(b, record.Record{At: 1, To: 4}); len(got) != 0 {
		t.Errorf("Whole: %q", got)
	}
	if got := record.Whole(b, record.Record{At: 1, To: 3}); string(got) != "abc" {
		t.Errorf("Whole: %q", got)
	}
}

// P5.2: Value and Whole of what is split are the values and the records that were laid.
func TestPiecesOfRecords(t *testing.T) {
	for _, wire := range wires() {
		for i, value := range values(wire) {
			whole, _ := laid(16, wire, value, i%10, i%4)
			b := join([]byte{8, 1}, whole, []byte{8, 2})
			l, _, e := record.Split(b)
			if len(l) != 3 || e != api.Fine {
				t.Fatalf("Split of %v: %v, %v", b, l, e)
			}
			if got := record.Value(b, l[1]); !bytes.Equal(got, value) {
				t.Errorf("Value of %v: %v", l[1], got)
			}
			if got := record.Whole(b, l[1]); !bytes.Equal(got, whole) {
				t.Errorf("Whole of %v: %v", l[1], got)
			}
		}
	}
}

// P5.2: what Value and Whole tell is new memory, with no room of what is handed in behind it.
func TestPiecesAreNew(t *testing.T) {
	b := []byte{18, 2, 104, 105, 8, 1}
	r := record.Record{Number: 2, Wire: 2, At: 2, To: 4}
	for _, piece := range []func([]byte, record.Record) []byte{record.Value, record.Whole} {
		got := piece(b, r)
		before := bytes.Clone(got)
		b[0], b[2] = 1, 2
		if !bytes.Equal(got, before) {
			t.Errorf("told, and what was handed in changed: %v", got)
		}
		b[0], b[2] = 18, 104
		got[0] = 9
		if got = append(got, 7, 7); !bytes.Equal(b, []byte{18, 2, 104, 105, 8, 1}) {
			t.Fatalf("what was told changed, and with it what was handed in: %v", b)
		}
	}
}

// P5.2: Put lays the minimal tag, of wire type 2 the minimal length, and the value as it is behind the bytes.
func TestPut(t *testing.T) {
	for _, number := range numbers() {
		for _, wire := range wires() {
			for _, value := range values(wire) {
				for _, b := range [][]byte{nil, {}, {0}, {8, 1}, high(20, 200, 3)} {
					beforeB, beforeValue := bytes.Clone(b), bytes.Clone(value)
					want, _ := laid(number, wire, value, 1, 1)
					got, e := record.Put(b, number, wire, value)
					if !bytes.Equal(got, join(b, want)) || e != api.Fine {
						t.Errorf("Put of %d, %d, %v behind %v: %v, %v", number, wire, value, b, got, e)
					}
					if !bytes.Equal(b, beforeB) || !bytes.Equal(value, beforeValue) {
						t.Errorf("Put of %d, %d, %v behind %v changed them", number, wire, beforeValue, beforeB)
					}
				}
			}
		}
	}
}

// P5.2: Put tells Arg, and nothing, of tags that can't be, and of values that don't fit the wire type.
func TestPutOfWrong(t *testing.T) {
	wrong := func(b []byte, number, wire int, value []byte) {
		t.Helper()
		if got, e := record.Put(b, number, wire, value); len(got) != 0 || e != api.Arg {
			t.Errorf("Put of %d, %d, %v behind %v: %v, %v", number, wire, value, b, got, e)
		}
	}
	for _, b := range [][]byte{nil, {}, {8, 1}} {
		for _, wire := range wires() {
			for _, number := range wrongNumbers() {
				for _, value := range append(values(wire), wrongValues(wire)...) {
					wrong(b, number, wire, value)
				}
			}
			for _, number := range numbers() {
				for _, value := range wrongValues(wire) {
					wrong(b, number, wire, value)
				}
			}
		}
		for _, wire := range wrongWires() {
			for _, number := range append(numbers(), wrongNumbers()...) {
				for _, value := range [][]byte{nil, {}, {1}, {1, 2, 3, 4}, make([]byte, 8)} {
					wrong(b, number, wire, value)
				}
			}
		}
	}
}

// P5.2: Put at the edges: a value of each length, of each wire type.
func TestPutOfLengths(t *testing.T) {
	for n := range 300 {
		value := high(max(n-1, 0), 170, 1)[:n]
		for _, wire := range wires() {
			fits := wire == 2 || wire == 1 && n == 8 || wire == 5 && n == 4 || wire == 0 && n >= 1 && n <= 10
			b, e := record.Put([]byte{7}, 2, wire, value)
			if !fits && (len(b) != 0 || e != api.Arg) {
				t.Errorf("Put of wire type %d, %d bytes: %v, %v", wire, n, b, e)
			}
			if want, _ := laid(2, wire, value, 1, 1); fits && (!bytes.Equal(b, join([]byte{7}, want)) || e != api.Fine) {
				t.Errorf("Put of wire type %d, %d bytes: %v, %v", wire, n, b, e)
			}
		}
	}
}

// P5.2: Put and Len by hand, told byte by byte.
func TestPutByHand(t *testing.T) {
	for _, c := range []struct {
		number, wire int
		value, want  []byte
	}{
		{1, 0, []byte{1}, []byte{8, 1}},
		{1, 0, []byte{129, 0}, []byte{8, 129, 0}},
		{2, 2, []byte{97}, []byte{18, 1, 97}},
		{2, 2, nil, []byte{18, 0}},
		{3, 5, []byte{1, 2, 3, 4}, []byte{29, 1, 2, 3, 4}},
		{4, 1, []byte{1, 2, 3, 4, 5, 6, 7, 8}, []byte{33, 1, 2, 3, 4, 5, 6, 7, 8}},
		{16, 2, []byte("xy"), []byte{130, 1, 2, 120, 121}},
		{536870911, 2, []byte{0}, []byte{250, 255, 255, 255, 15, 1, 0}},
		{1, 2, make([]byte, 128), join([]byte{10, 128, 1}, make([]byte, 128))},
	} {
		if got, e := record.Put([]byte("a"), c.number, c.wire, c.value); !bytes.Equal(got, join([]byte("a"), c.want)) || e != api.Fine {
			t.Errorf("Put of %d, %d, %v: %v, %v", c.number, c.wire, c.value, got, e)
		}
		if got := record.Len([]byte("a"), c.number, c.value); c.wire == 2 && !bytes.Equal(got, join([]byte("a"), c.want)) {
			t.Errorf("Len of %d, %v: %v", c.number, c.value, got)
		}
	}
}

// P5.2: Len is Put of wire type 2; the bytes as they are, where the number can't be.
func TestLen(t *testing.T) {
	for _, b := range [][]byte{nil, {}, {0}, {8, 1}, high(20, 200, 3)} {
		before := bytes.Clone(b)
		for _, value := range values(2) {
			for _, number := range numbers() {
				want, _ := laid(number, 2, value, 1, 1)
				if got := record.Len(b, number, value); !bytes.Equal(got, join(b, want)) {
					t.Errorf("Len of %d, %v behind %v: %v", number, value, b, got)
				}
			}
			for _, number := range wrongNumbers() {
				if got := record.Len(b, number, value); !bytes.Equal(got, b) {
					t.Errorf("Len of %d, %v behind %v: %v", number, value, b, got)
				}
			}
		}
		if !bytes.Equal(b, before) {
			t.Errorf("Len changed %v to %v", before, b)
		}
	}
}

// P5.2: what Put and Len tell is new memory, and the room behind what is handed in stays as it is.
func TestPutIsNew(t *testing.T) {
	for name, put := range map[string]func(b, value []byte) []byte{
		"Put":             func(b, value []byte) []byte { c, _ := record.Put(b, 2, 2, value); return c },
		"Put of a varint": func(b, value []byte) []byte { c, _ := record.Put(b, 2, 0, value); return c },
		"Len":             func(b, value []byte) []byte { return record.Len(b, 2, value) },
		"Len of 0":        func(b, value []byte) []byte { return record.Len(b, 0, value) },
	} {
		room, value := []byte{1, 2, 9, 9, 9, 9, 9}, []byte{5, 6}[:1]
		got := put(room[:2], value)
		before := bytes.Clone(got)
		if !bytes.Equal(room, []byte{1, 2, 9, 9, 9, 9, 9}) {
			t.Errorf("%s: behind what was handed in: %v", name, room)
		}
		room[0], value[0] = 7, 8
		if !bytes.Equal(got, before) {
			t.Errorf("%s: told, and what was handed in changed: %v", name, got)
		}
		for i := range got {
			got[i] = 77
		}
		got = append(got, 77)
		if !bytes.Equal(room, []byte{7, 2, 9, 9, 9, 9, 9}) || !bytes.Equal(value[:2], []byte{8, 6}) {
			t.Errorf("%s: what was told changed, and with it what was handed in: %v, %v", name, room, value[:2])
		}
	}
}

// P5.2: the bytes and the value may be of the same memory.
func TestPutOfItself(t *testing.T) {
	b := []byte{18, 1, 97, 98}
	if got := record.Len(b[:3], 1, b); !bytes.Equal(got, []byte{18, 1, 97, 10, 4, 18, 1, 97, 98}) {
		t.Errorf("Len: %v", got)
	}
	if got, e := record.Put(b[:1], 1, 0, b[1:2]); !bytes.Equal(got, []byte{18, 8, 1}) || e != api.Fine {
		t.Errorf("Put: %v, %v", got, e)
	}
	if !bytes.Equal(b, []byte{18, 1, 97, 98}) {
		t.Errorf("changed: %v", b)
	}
}

// P5.3: records lie without a gap, from 0 to the end, and are whole: together they are the bytes again.
func TestNoGap(t *testing.T) {
	b := some()
	l, _, e := record.Split(b)
	if e != api.Fine {
		t.Fatalf("Split: %v", e)
	}
	end, again := 0, []byte{}
	for _, r := range l {
		if r.From != end || r.At <= r.From || r.To < r.At {
			t.Errorf("%v begins behind %d", r, end)
		}
		end = r.To
		again = append(again, record.Whole(b, r)...)
		if next, e := record.Next(b, r.From); next != r || e != api.Fine {
			t.Errorf("Next from %d on: %v, %v, not %v", r.From, next, e, r)
		}
	}
	if end != len(b) || !bytes.Equal(again, b) {
		t.Errorf("they end at %d of %d: %v", end, len(b), again)
	}
}

// P5.3: what is put, one behind the other, is split, with its numbers, wire types and values.
func TestPutIsSplit(t *testing.T) {
	b, want, put := []byte{}, []record.Record{}, [][]byte{}
	for i, number := range numbers() {
		for _, wire := range wires() {
			value := values(wire)[i%len(values(wire))]
			next, e := record.Put(b, number, wire, value)
			if e != api.Fine {
				t.Fatalf("Put of %d, %d, %v: %v", number, wire, value, e)
			}
			want = append(want, record.Record{Number: number, Wire: wire, From: len(b), At: len(next) - len(value), To: len(next)})
			b, put = next, append(put, value)
		}
	}
	l, place, e := record.Split(b)
	if !slices.Equal(l, want) || place != 0 || e != api.Fine {
		t.Fatalf("Split of what was put: %v, %d, %v, not %v", l, place, e, want)
	}
	for i, r := range l {
		if got := record.Value(b, r); !bytes.Equal(got, put[i]) {
			t.Errorf("the value of %v: %v, not %v", r, got, put[i])
		}
	}
}

// P5.3: what is split, and put again, is the same bytes, where tags and lengths were minimal, else fewer.
func TestSplitIsPut(t *testing.T) {
	for tagSize := range 4 {
		for lengthSize := range 3 {
			b, _ := laid(1, 2, []byte("hi"), tagSize, lengthSize)
			r, e := record.Next(b, 0)
			if e != api.Fine {
				t.Fatalf("Next of %v: %v", b, e)
			}
			got, e := record.Put(nil, r.Number, r.Wire, record.Value(b, r))
			if !bytes.Equal(got, []byte{10, 2, 104, 105}) || e != api.Fine {
				t.Errorf("%v, put again: %v, %v", b, got, e)
			}
		}
	}
}

// P5.1: records are held against each other by ==, and may be keys.
func TestRecordIsKey(t *testing.T) {
	met := map[record.Record]int{}
	for range 3 {
		l, _, _ := record.Split([]byte{8, 1, 8, 1})
		for _, r := range l {
			met[r]++
		}
	}
	if len(met) != 2 || met[record.Record{Number: 1, At: 1, To: 2}] != 3 || met[record.Record{Number: 1, From: 2, At: 3, To: 4}] != 3 {
		t.Errorf("met: %v", met)
	}
}
