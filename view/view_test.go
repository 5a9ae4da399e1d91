package view_test

import (
	"bytes"
	"math"
	"slices"
	"strconv"
	"testing"

	"darning/api"
	"darning/record"
	"darning/view"
)

// wires are the wire types.
func wires() []int { return []int{0, 1, 2, 5} }

// wireOf is a kind's wire type, as the chapter of kinds lists them; -1 of what is no kind.
func wireOf(k int) int {
	switch k {
	case 1, 2, 3, 4, 5, 6, 7, 8:
		return 0
	case 9, 10, 11:
		return 5
	case 12, 13, 14:
		return 1
	case 15, 16, 17:
		return 2
	}
	return -1
}

// kinds are all of them.
func kinds() []int { return []int{1, 2, 3, 4, 5, 6, 7, 8, 9, 10, 11, 12, 13, 14, 15, 16, 17} }

// noKinds are numbers that are no kind; some that are 2^8, 2^16 or 2^32 away from one are among them.
func noKinds() []int {
	l := []int{math.MinInt, math.MinInt + 1, math.MinInt32, -2, -1, 0, 18, 19, 31, 100, math.MaxInt32, math.MaxInt - 1, math.MaxInt}
	for _, k := range kinds() {
		l = append(l, -k, k-256, k+256, k+1<<16)
		if high := uint64(1)<<32 + uint64(k); high < math.MaxInt { // of 32 bits, it would go round to a kind
			l = append(l, int(high))
		}
	}
	return l
}

// piece is a record's bytes, with what the document says of them.
type piece struct {
	number, wire int
	bytes        string
	value        int // how many bytes of it the value has
}

// pieces are records of the numbers 1 to 5 and 16, of all wire types, with tags and lengths that are minimal or not.
func pieces() []piece {
	l := []piece{
		{1, 2, "\x0a\x02\x05\x06", 2}, {2, 2, "\x12\x01a", 1}, {2, 0, "\x90\x00\x07", 1}, {3, 5, "\x1d\x01\x02\x03\x04", 4},
		{16, 0, "\x80\x01\xac\x02", 2}, {16, 2, "\x82\x81\x00\x83\x00\x08\x01\x80", 3}, {1, 0, "\x88\x80\x00\x81\x00", 2},
	}
	for n := 1; n <= 5; n++ {
		l = append(l,
			piece{n, 0, string([]byte{byte(8 * n), byte(n)}), 1},
			piece{n, 1, string([]byte{byte(8*n + 1)}) + "\x00\x01\x02\x03\x04\x05\x06\x07", 8},
			piece{n, 2, string([]byte{byte(8*n + 2), 0}), 0},
			piece{n, 5, string([]byte{byte(8*n + 5)}) + "\x80\x80\x80\x80", 4})
	}
	return l
}

// fault is bytes that no record begins with, and why.
type fault struct {
	bytes string
	why   api.Code
}

// faults are of each sort that can't be read, whatever the message; the numbers of some are those of fields.
func faults() []fault {
	return []fault{
		{"\x08", api.Short}, {"\x88", api.Short}, {"\x09\x01\x02\x03\x04\x05\x06\x07", api.Short}, {"\x0a", api.Short},
		{"\x12\x02a", api.Short}, {"\x0d\x01\x02\x03", api.Short}, {"\x08\x80", api.Short}, {"\x2a\x80", api.Short},
		{"\x08\xff\xff\xff\xff\xff\xff\xff\xff\xff\x02", api.Over}, {"\x0a\xff\xff\xff\xff\xff\xff\xff\xff\xff\x02", api.Over},
		{"\x0a\xff\xff\xff\xff\xff\xff\xff\xff\xff\x01", api.Short}, {"\xff\xff\xff\xff\xff\xff\xff\xff\xff\x02", api.Over},
		{"\x00\x01", api.Tag}, {"\x02\x00", api.Tag}, {"\x0b", api.Tag}, {"\x0c", api.Tag}, {"\x0e\x01", api.Tag}, {"\x0f\x01", api.Tag},
		{"\x80\x80\x80\x80\x10\x01", api.Tag},
	}
}

// messages are of all sorts: without fields; of all kinds; with what no schema has, too.
func messages() []api.Message {
	l := []api.Message{
		{},
		{Name: "m", Fields: []api.Field{}},
		{Fields: []api.Field{{Number: 1, Kind: 1, Repeated: true}, {Number: 2, Kind: 15}, {Number: 3, Kind: 11}}},
		{Fields: []api.Field{{Number: 16, Kind: 4}, {Number: 3, Kind: 17}, {Number: 2, Kind: 14, Repeated: true, Packed: true}, {Number: 1, Kind: 7}}},
		{Fields: []api.Field{{Number: 16, Kind: 17, Repeated: true, Of: 7}, {Number: 1, Kind: 16, Repeated: true, Packed: true}, {Number: 5, Kind: 9, Repeated: true}}},
		{Fields: []api.Field{{Number: 2, Kind: 15}, {Number: 2, Kind: 1}, {Number: 1, Kind: 1}, {Number: 1, Kind: 15}, {Number: 1, Kind: 1, Repeated: true}}},
		{Fields: []api.Field{{Number: 1, Kind: 0}, {Number: 1, Kind: 3}, {Number: 2, Kind: 18, Repeated: true, Packed: true}, {Number: 3, Kind: -1}}},
	}
	var m api.Message
	for i, n := range others() {
		m.Fields = append(m.Fields, api.Field{Number: n, Kind: i + 1})
	}
	l = append(l, m)
	for _, k := range kinds() {
		l = append(l,
			api.Message{Fields: []api.Field{{Number: 1, Kind: k}, {Number: 2, Kind: k, Repeated: true}}},
			api.Message{Fields: []api.Field{{Number: 3, Kind: k, Repeated: true, Packed: true}, {Number: 2, Kind: k, Packed: true}, {Number: 1, Kind: 18 - k}}})
	}
	return l
}

// judge tells by the document what a record of this number and wire type is to a message.
func judge(m api.Message, number, wire int) (field int, run bool, e api.Code) {
	for i := range m.Fields {
		f := m.Fields[i]
		if f.Number != number {
			continue
		}
		own := wireOf(f.Kind)
		switch {
		case own < 0:
			return 0, false, api.Wire
		case own == wire:
			return i, false, api.Fine
		case f.Repeated && own != 2 && wire == 2:
			return i, true, api.Fine
		}
		return 0, false, api.Wire
	}
	return -1, false, api.Fine
}

// row is pieces one behind the other, and what lies behind them.
type row struct {
	pieces []piece
	tail   fault
}

// bytes are a row's.
func (r row) bytes() []byte {
	var b []byte
	for _, p := range r.pieces {
		b = append(b, p.bytes...)
	}
	return append(b, r.tail.bytes...)
}

// views are by the document all that there are of a row's pieces, or the place of what can't be told, and why.
func (r row) views(m api.Message) ([]view.View, int, api.Code) {
	var l []view.View
	from := 0
	for _, p := range r.pieces {
		field, run, e := judge(m, p.number, p.wire)
		if e != api.Fine {
			return nil, from, e
		}
		to := from + len(p.bytes)
		l = append(l, view.View{Record: record.Record{Number: p.number, Wire: p.wire, From: from, At: to - p.value, To: to}, Field: field, Run: run})
		from = to
	}
	if r.tail.why != api.Fine {
		return nil, from, r.tail.why
	}
	return l, 0, api.Fine
}

// rows are none, all of up to two pieces, and some longer ones; some of each with a fault behind.
func rows() []row {
	l := []row{{}}
	all := pieces()
	for i, p := range all {
		l = append(l, row{pieces: []piece{p}})
		for j, q := range all {
			l = append(l, row{pieces: []piece{p, q}}, row{pieces: []piece{p, q, all[(7*i+3*j)%len(all)], p}})
		}
		l = append(l, row{pieces: all[i:]}, row{pieces: slices.Concat(all[i:], all[:i])})
	}
	for i, f := range faults() {
		l = append(l, row{tail: f})
		for _, p := range all {
			l = append(l, row{pieces: []piece{p}, tail: f}, row{pieces: []piece{p, all[i%len(all)], p}, tail: f})
		}
	}
	return l
}

// others are numbers that none of the pieces has; some that are 2^8, 2^16 or 2^29 away from one are among them.
func others() []int {
	return []int{0, -1, 6, 15, 17, 257, -255, 65537, 1<<29 + 1, math.MinInt, math.MinInt + 1, math.MinInt32, math.MaxInt32, math.MaxInt}
}

// clone is a message in new memory.
func clone(m api.Message) api.Message {
	return api.Message{Name: m.Name, Fields: slices.Clone(m.Fields)}
}

// same tells whether two messages are the same.
func same(a, b api.Message) bool { return a.Name == b.Name && slices.Equal(a.Fields, b.Fields) }

// each hands on all messages with all rows, and holds that neither is changed.
func each(t *testing.T, try func(m api.Message, r row, b []byte)) {
	t.Helper()
	all := rows()
	for _, m := range messages() {
		before := clone(m)
		for _, r := range all {
			b := r.bytes()
			try(m, r, b)
			if !bytes.Equal(b, r.bytes()) || !same(m, before) {
				t.Fatalf("%v, %v were changed to %v, %v", before, r.bytes(), m, b)
			}
		}
	}
}

// P10.1: All is as the document defines it, and changes nothing.
func TestAll(t *testing.T) {
	each(t, func(m api.Message, r row, b []byte) {
		want, at, why := r.views(m)
		if l, place, e := view.All(m, b); !slices.Equal(l, want) || place != at || e != why {
			t.Fatalf("All of %v, %v: %v, %d, %v, not %v, %d, %v", m, b, l, place, e, want, at, why)
		}
	})
}

// P10.1: Look is as the document defines it, at each record, whatever lies ahead and behind.
func TestLook(t *testing.T) {
	each(t, func(m api.Message, r row, b []byte) {
		from := 0
		for _, p := range r.pieces {
			want := view.View{}
			field, run, why := judge(m, p.number, p.wire)
			to := from + len(p.bytes)
			if why == api.Fine {
				want = view.View{Record: record.Record{Number: p.number, Wire: p.wire, From: from, At: to - p.value, To: to}, Field: field, Run: run}
			}
			if v, e := view.Look(m, b, from); v != want || e != why {
				t.Fatalf("Look at %v, %v, %d: %v, %v, not %v, %v", m, b, from, v, e, want, why)
			}
			from = to
		}
		if r.tail.why == api.Fine {
			r.tail.why = api.Arg // where the bytes end, no record begins
		}
		if v, e := view.Look(m, b, from); v != (view.View{}) || e != r.tail.why {
			t.Fatalf("Look at %v, %v, %d: %v, %v, not %v", m, b, from, v, e, r.tail.why)
		}
	})
}

// P10.1: record.Next's errors come first, at all places, those inside of records, too.
func TestLookAnywhere(t *testing.T) {
	for _, m := range messages() {
		for _, r := range rows() {
			b := r.bytes()
			if len(b) > 20 {
				continue
			}
			for from := -2; from <= len(b)+2; from++ {
				want := view.View{}
				rec, why := record.Next(b, from)
				if why == api.Fine {
					want = view.View{Record: rec}
					if want.Field, want.Run, why = judge(m, rec.Number, rec.Wire); why != api.Fine {
						want = view.View{}
					}
				}
				if v, e := view.Look(m, b, from); v != want || e != why {
					t.Fatalf("Look at %v, %v, %d: %v, %v, not %v, %v", m, b, from, v, e, want, why)
				}
			}
		}
	}
}

// P10.1: a place that is none is Arg, of all messages and bytes.
func TestLookAtNoPlace(t *testing.T) {
	for _, m := range messages() {
		for _, b := range [][]byte{nil, {}, {8, 1}, {8, 1, 16, 1}, {255}} {
			for _, from := range []int{math.MinInt, math.MinInt + 1, math.MinInt32, -2, -1, len(b), len(b) + 1, math.MaxInt32, math.MaxInt - 1, math.MaxInt} {
				if v, e := view.Look(m, b, from); v != (view.View{}) || e != api.Arg {
					t.Errorf("Look at %v, %v, %d: %v, %v", m, b, from, v, e)
				}
			}
		}
	}
}

// recordOf is a record of number 1 and the wire type.
func recordOf(wire int) []byte {
	return map[int][]byte{0: {8, 1}, 1: {9, 1, 0, 0, 0, 0, 0, 0, 0}, 2: {10, 1, 1}, 5: {13, 1, 0, 0, 0}}[wire]
}

// holds that Look and All tell this of the one record that the bytes are.
func holds(t *testing.T, m api.Message, b []byte, field int, run bool, why api.Code) {
	t.Helper()
	v, e := view.Look(m, b, 0)
	l, place, f := view.All(m, b)
	if e != why || f != why || place != 0 {
		t.Errorf("of %v, %v: %v, %v at %d, not %v", m, b, e, f, place, why)
		return
	}
	if why != api.Fine {
		if v != (view.View{}) || len(l) != 0 {
			t.Errorf("of %v, %v: %v and %v beside %v", m, b, v, l, why)
		}
		return
	}
	r, _ := record.Next(b, 0)
	if v != (view.View{Record: r, Field: field, Run: run}) || !slices.Equal(l, []view.View{v}) {
		t.Errorf("of %v, %v: %v, %v, not %v, %d, %v", m, b, v, l, r, field, run)
	}
}

// P10.1: which wire types fit which kinds, written out: a kind's own, and of what is Repeated and a number's 2, as a run, whatever Packed says.
func TestFits(t *testing.T) {
	for _, c := range []struct {
		kinds []int
		wire  int
	}{
		{[]int{api.Int32, api.Int64, api.Uint32, api.Uint64, api.Sint32, api.Sint64, api.Bool, api.Enum}, api.Varint},
		{[]int{api.Fixed32, api.Sfixed32, api.Float}, api.Four},
		{[]int{api.Fixed64, api.Sfixed64, api.Double}, api.Eight},
		{[]int{api.String, api.Bytes, api.Sub}, api.Len},
	} {
		for _, k := range c.kinds {
			for _, wire := range wires() {
				for _, packed := range []bool{false, true} {
					once := api.Message{Fields: []api.Field{{Number: 1, Kind: k, Packed: packed}}}
					many := api.Message{Fields: []api.Field{{Number: 1, Kind: k, Packed: packed, Repeated: true}}}
					b, run, onceFits, manyFits := recordOf(wire), false, api.Wire, api.Wire
					if wire == c.wire {
						onceFits, manyFits = api.Fine, api.Fine
					} else if wire == api.Len {
						run, manyFits = true, api.Fine
					}
					holds(t, once, b, 0, false, onceFits)
					holds(t, many, b, 0, run, manyFits)
				}
			}
		}
	}
}

// P10.1: of a kind that is none nothing fits, a run neither; of another number its records are unknown.
func TestNoKinds(t *testing.T) {
	for _, k := range noKinds() {
		for _, wire := range wires() {
			for _, f := range []api.Field{{}, {Repeated: true}, {Packed: true}, {Repeated: true, Packed: true}} {
				f.Kind, f.Number = k, 1
				holds(t, api.Message{Fields: []api.Field{f}}, recordOf(wire), 0, false, api.Wire)
				f.Number = 2
				holds(t, api.Message{Fields: []api.Field{f}}, recordOf(wire), -1, false, api.Fine)
			}
		}
	}
}

// P10.1: the first field of the number is the record's, though another one would fit, or fit otherwise.
func TestFirstField(t *testing.T) {
	varint, text := api.Field{Number: 1, Kind: api.Uint64}, api.Field{Number: 1, Kind: api.String}
	many, none := api.Field{Number: 1, Kind: api.Uint64, Repeated: true}, api.Field{Number: 1, Kind: 99}
	other := api.Field{Number: 2, Kind: api.Float}
	for _, c := range []struct {
		fields []api.Field
		wire   int
		field  int
		run    bool
		why    api.Code
	}{
		{[]api.Field{varint, text}, 0, 0, false, api.Fine},
		{[]api.Field{varint, text}, 2, 0, false, api.Wire},
		{[]api.Field{varint, many}, 2, 0, false, api.Wire},
		{[]api.Field{text, varint}, 2, 0, false, api.Fine},
		{[]api.Field{text, varint}, 0, 0, false, api.Wire},
		{[]api.Field{text, many}, 2, 0, false, api.Fine},
		{[]api.Field{many, text}, 2, 0, true, api.Fine},
		{[]api.Field{many, varint}, 2, 0, true, api.Fine},
		{[]api.Field{none, varint}, 0, 0, false, api.Wire},
		{[]api.Field{varint, none}, 0, 0, false, api.Fine},
		{[]api.Field{other, varint, text}, 0, 1, false, api.Fine},
		{[]api.Field{other, varint, text}, 2, 0, false, api.Wire},
		{[]api.Field{other, other, other, many, text}, 2, 3, true, api.Fine},
		{[]api.Field{other, other, text}, 2, 2, false, api.Fine},
		{[]api.Field{other, other}, 2, -1, false, api.Fine},
	} {
		holds(t, api.Message{Fields: c.fields}, recordOf(c.wire), c.field, c.run, c.why)
	}
}

// P10.1: the numbers' ends; a field's number isn't taken for another one that it would go round to.
func TestNumbersEnds(t *testing.T) {
	for _, n := range []int{1, 15, 16, 255, 256, 257, 2047, 2048, 18999, 19000, 19999, 65537, api.MaxNumber - 1, api.MaxNumber} {
		b, e := record.Put(nil, n, api.Varint, []byte{5})
		if e != api.Fine {
			t.Fatalf("Put of %d: %v", n, e)
		}
		holds(t, api.Message{Fields: []api.Field{{Number: n, Kind: api.Int64}}}, b, 0, false, api.Fine)
		around := []int{-n, n - 1, n + 1, n - 256, n + 256, n + 1<<16, n + 1<<29, 8 * n, math.MinInt + n}
		if high := uint64(1)<<32 + uint64(n); high < math.MaxInt {
			around = append(around, int(high))
		}
		for _, other := range around {
			if other == n {
				continue
			}
			holds(t, api.Message{Fields: []api.Field{{Number: other, Kind: api.String}}}, b, -1, false, api.Fine)
			holds(t, api.Message{Fields: []api.Field{{Number: other, Kind: api.String}, {Number: n, Kind: api.Int64}}}, b, 1, false, api.Fine)
		}
	}
}

// P10.1: All at ends that are written out.
func TestAllEnds(t *testing.T) {
	m := api.Message{Fields: []api.Field{{Number: 1, Kind: api.Int32, Repeated: true}, {Number: 2, Kind: api.String}, {Number: 3, Kind: api.Double}}}
	for _, c := range []struct {
		b     string
		place int
		why   api.Code
		roles string // of each record its field's place, and a star behind a run
	}{
		{"", 0, api.Fine, ""},
		{"\x08\x01", 0, api.Fine, "0 "}, // the chapter's examples
		{"\x0a\x01\x01", 0, api.Fine, "0* "},
		{"\x20\x01", 0, api.Fine, "-1 "},
		{"\x08\x01\x0a\x01\x01\x08\x02\x0a\x00", 0, api.Fine, "0 0* 0 0* "},
		{"\x0a\x01\x80", 0, api.Fine, "0* "}, // what is in a run, or a text, isn't looked at
		{"\x12\x01\xff\x2a\x02\x08\x00", 0, api.Fine, "1 -1 "},
		{"\x20\x01\x21\x00\x00\x00\x00\x00\x00\x00\x00\x22\x00\x25\x00\x00\x00\x00", 0, api.Fine, "-1 -1 -1 -1 "},
		{"\x10\x01", 0, api.Wire, ""},
		{"\x08\x01\x10\x01", 2, api.Wire, ""},
		{"\x08\x01\x0d\x01\x02\x03\x04", 2, api.Wire, ""},
		{"\x08\x01\x09\x01\x02\x03\x04\x05\x06\x07\x08", 2, api.Wire, ""},
		{"\x12\x00\x1a\x00", 2, api.Wire, ""},
		{"\x20\x01\x1d\x00\x00\x00\x00", 2, api.Wire, ""},
		{"\x08\x01\x10", 2, api.Short, ""}, // what can't be read comes ahead of what doesn't fit, of one record
		{"\x08\x01\x10\x80", 2, api.Short, ""},
		{"\x08\x01\x10\xff\xff\xff\xff\xff\xff\xff\xff\xff\x02", 2, api.Over, ""},
		{"\x08\x01\x10\x01\x10", 2, api.Wire, ""}, // of two records, the first one
		{"\x08\x01\x10\x01\x00", 2, api.Wire, ""},
		{"\x08\x01\x00\x10\x01", 2, api.Tag, ""},
		{"\x08\x01\x0b\x10\x01", 2, api.Tag, ""},
		{"\x10\x01\x1a\x00", 0, api.Wire, ""},
		{"\x12\x00\x08\x01\x10\x01\x12\x00", 4, api.Wire, ""},
	} {
		l, place, e := view.All(m, []byte(c.b))
		roles := ""
		for _, v := range l {
			roles += strconv.Itoa(v.Field)
			if v.Run {
				roles += "*"
			}
			roles += " "
		}
		if roles != c.roles || place != c.place || e != c.why {
			t.Errorf("All of %q: %q, %d, %v, not %q, %d, %v", c.b, roles, place, e, c.roles, c.place, c.why)
		}
	}
}

// P10.2: Of, Has, Unknown and Drop are as the document defines them, and change nothing; of what All tells an error of there is nothing.
func TestParts(t *testing.T) {
	each(t, func(m api.Message, r row, b []byte) {
		all, _, why := r.views(m)
		var unknown [][]byte
		var known []byte
		for i, v := range all {
			if v.Field == -1 {
				unknown = append(unknown, []byte(r.pieces[i].bytes))
			} else {
				known = append(known, r.pieces[i].bytes...)
			}
		}
		if l := view.Unknown(m, b); !slices.EqualFunc(l, unknown, bytes.Equal) {
			t.Fatalf("Unknown of %v, %v: %v, not %v", m, b, l, unknown)
		}
		if d, e := view.Drop(m, b); !bytes.Equal(d, known) || e != why {
			t.Fatalf("Drop of %v, %v: %v, %v, not %v, %v", m, b, d, e, known, why)
		}
		for _, n := range []int{1, 2, 16, 6} {
			var want []view.View
			for _, v := range all {
				if v.Number == n {
					want = append(want, v)
				}
			}
			if l := view.Of(m, b, n); !slices.Equal(l, want) {
				t.Fatalf("Of %v, %v, %d: %v, not %v", m, b, n, l, want)
			}
			if has := view.Has(m, b, n); has != (len(want) > 0) {
				t.Fatalf("Has of %v, %v, %d: %v", m, b, n, has)
			}
		}
	})
}

// P10.2: the calls at ends that are written out.
func TestPartsEnds(t *testing.T) {
	m := api.Message{Fields: []api.Field{{Number: 7, Kind: 99}, {Number: 1, Kind: api.Int32, Repeated: true}, {Number: 2, Kind: api.String}}}
	b := []byte("\x20\x07\x08\x01\x0a\x02\x05\x06\x2a\x00\x12\x01a\xa0\x00\x87\x00")
	if l := view.Of(m, b, 1); len(l) != 2 || l[0].From != 2 || l[0].Run || l[1].At != 6 || !l[1].Run || l[1].Field != 1 {
		t.Errorf("Of 1: %v", l)
	}
	if l := view.Of(m, b, 4); len(l) != 2 || l[0].From != 0 || l[0].To != 2 || l[0].Field != -1 || l[1].From != 13 || l[1].At != 15 || l[1].To != 17 {
		t.Errorf("Of 4: %v", l)
	}
	for _, n := range append(others(), 1, 2, 4, 5, 3, 7, 8) {
		has := slices.Contains([]int{1, 2, 4, 5}, n)
		if view.Has(m, b, n) != has || len(view.Of(m, b, n)) > 0 != has {
			t.Errorf("Has %d: not %v", n, has)
		}
	}
	if u := view.Unknown(m, b); len(u) != 3 || string(u[0]) != "\x20\x07" || string(u[1]) != "\x2a\x00" || string(u[2]) != "\xa0\x00\x87\x00" {
		t.Errorf("Unknown: %q", u)
	}
	if d, e := view.Drop(m, b); string(d) != "\x08\x01\x0a\x02\x05\x06\x12\x01a" || e != api.Fine {
		t.Errorf("Drop: %q, %v", d, e)
	}
	for _, f := range append(faults(), fault{"\x10\x01", api.Wire}, fault{"\x3a\x00", api.Wire}) {
		c := append(bytes.Clone(b), f.bytes...)
		if len(view.Of(m, c, 1)) != 0 || len(view.Of(m, c, 4)) != 0 || view.Has(m, c, 1) || view.Has(m, c, 4) || len(view.Unknown(m, c)) != 0 {
			t.Errorf("of %q behind the records there is something", f.bytes)
		}
		if d, e := view.Drop(m, c); len(d) != 0 || e != f.why {
			t.Errorf("Drop of %q behind the records: %q, %v", f.bytes, d, e)
		}
	}
}

// P10.3: known and unknown records together are all; what is dropped has no unknown ones, and is told as before.
func TestTogether(t *testing.T) {
	each(t, func(m api.Message, r row, b []byte) {
		all, _, e := view.All(m, b)
		if e != api.Fine {
			return
		}
		unknown := view.Unknown(m, b)
		dropped, _ := view.Drop(m, b)
		var whole []byte
		known, gone := 0, 0
		for _, v := range all {
			if v.Field == -1 {
				whole = append(whole, unknown[gone]...)
				gone++
				continue
			}
			n := v.To - v.From
			whole = append(whole, dropped[known:known+n]...)
			known += n
		}
		if !bytes.Equal(whole, b) || gone != len(unknown) || known != len(dropped) {
			t.Fatalf("of %v, %v: %v and %v aren't all", m, b, dropped, unknown)
		}
		left, _, e := view.All(m, dropped)
		if len(left) != len(all)-gone || e != api.Fine || len(view.Unknown(m, dropped)) != 0 {
			t.Fatalf("Drop of %v, %v: %v, of which All tells %v, %v", m, b, dropped, left, e)
		}
		if again, e := view.Drop(m, dropped); !bytes.Equal(again, dropped) || e != api.Fine {
			t.Fatalf("Drop of %v, %v, twice: %v, %v, not %v", m, b, again, e, dropped)
		}
	})
}

// spoil changes all bytes, and those behind them that belong to the slice.
func spoil(b []byte) {
	b = b[:cap(b)]
	for i := range b {
		b[i] = 77
	}
}

// R4: what is told is the caller's: changes to it change neither the bytes nor other parts of the answer.
func TestAnswersAreNew(t *testing.T) {
	b := []byte("\x08\x01\x20\x07\x2a\x00\x12\x01a\x20\x08")
	before := bytes.Clone(b)
	all := api.Message{Fields: []api.Field{{Number: 1, Kind: 1}, {Number: 2, Kind: 15}, {Number: 4, Kind: 1}, {Number: 5, Kind: 16}}}
	some := api.Message{Fields: all.Fields[:2]}
	for _, m := range []api.Message{{}, some, all} {
		d, _ := view.Drop(m, b)
		spoil(d)
		want := view.Unknown(m, b)
		for i := range want {
			l := view.Unknown(m, b)
			spoil(l[i])
			for j := range l {
				if j != i && !bytes.Equal(l[j], want[j]) {
					t.Errorf("Unknown of %v: %d shares its memory with %d: %v", m, i, j, l)
				}
			}
		}
		l, _, _ := view.All(m, b)
		clear(l)
		if again, _, _ := view.All(m, b); len(again) != 5 || again[4].To != len(b) {
			t.Errorf("All of %v, again: %v", m, again)
		}
		if !bytes.Equal(b, before) {
			t.Fatalf("of %v, the bytes were changed to %v", m, b)
		}
	}
}

// R6: nothing is kept: what was told of another message, or of other bytes, plays no part.
func TestNothingIsKept(t *testing.T) {
	for range 2 {
		for _, wire := range wires() {
			for _, k := range kinds() {
				m := api.Message{Fields: []api.Field{{Number: 1, Kind: k}}}
				field, run, why := judge(m, 1, wire)
				holds(t, m, recordOf(wire), field, run, why)
			}
			holds(t, api.Message{}, recordOf(wire), -1, false, api.Fine)
		}
	}
}

// R1: what lies behind a slice isn't looked at.
func TestPieceOfASlice(t *testing.T) {
	m := api.Message{Fields: []api.Field{{Number: 1, Kind: api.Int32}, {Number: 2, Kind: api.String}}}
	room := []byte{8, 1, 18, 1, 97, 16, 1}
	for n, place := range map[int]int{1: 0, 3: 2, 4: 2} {
		if l, at, e := view.All(m, room[:n]); len(l) != 0 || at != place || e != api.Short {
			t.Errorf("All of %d bytes: %v, %d, %v", n, l, at, e)
		}
	}
	if l, _, e := view.All(m, room[:5]); len(l) != 2 || e != api.Fine {
		t.Errorf("All of 5 bytes: %v, %v", l, e)
	}
	if d, e := view.Drop(m, room[:5]); len(d) != 5 || e != api.Fine {
		t.Errorf("Drop of 5 bytes: %v, %v", d, e)
	}
}

// R1: very many records, of one field and of many, and messages of very many fields.
func TestManyRecords(t *testing.T) {
	const many = 1 << 18
	m := api.Message{}
	for i := range many {
		m.Fields = append(m.Fields, api.Field{Number: i + 1, Kind: api.Uint64})
	}
	last := record.Len(nil, many+1, nil)
	b := append(bytes.Repeat([]byte{8, 1}, many), last...)
	l, _, e := view.All(m, b)
	if len(l) != many+1 || e != api.Fine || l[many].Field != -1 || l[many-1].Field != 0 {
		t.Errorf("All of many: %d, %v", len(l), e)
	}
	if len(view.Of(m, b, 1)) != many || !view.Has(m, b, many+1) || view.Has(m, b, 2) {
		t.Errorf("Of many: %d", len(view.Of(m, b, 1)))
	}
	if u := view.Unknown(m, b); len(u) != 1 || !bytes.Equal(u[0], last) {
		t.Errorf("Unknown of many: %v", u)
	}
	if d, e := view.Drop(m, b); len(d) != 2*many || e != api.Fine {
		t.Errorf("Drop of many: %d, %v", len(d), e)
	}
	if l, place, e := view.All(m, append(b, 10, 0)); len(l) != 0 || place != len(b) || e != api.Wire {
		t.Errorf("All of many, with one that doesn't fit: %d, %d, %v", len(l), place, e)
	}
	var c []byte
	for n := range 400 {
		c, _ = record.Put(c, n+1, api.Varint, []byte{1})
	}
	m.Fields = m.Fields[:200]
	if l, _, e := view.All(m, c); len(l) != 400 || e != api.Fine || l[199].Field != 199 || l[200].Field != -1 {
		t.Errorf("All of many numbers: %d, %v", len(l), e)
	}
}

// P10.1: a view embeds its record: the record's places are the view's own.
func TestEmbedded(t *testing.T) {
	b := []byte{32, 0, 10, 1, 1}
	m := api.Message{Fields: []api.Field{{Number: 1, Kind: api.Int32, Repeated: true}}}
	v, e := view.Look(m, b, 2)
	r, _ := record.Next(b, 2)
	if e != api.Fine || v.Record != r || v.Number != 1 || v.Wire != 2 || v.From != 2 || v.At != 4 || v.To != 5 || !bytes.Equal(record.Value(b, v.Record), []byte{1}) {
		t.Errorf("Look: %v, %v", v, e)
	}
}
