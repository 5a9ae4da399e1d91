package valid_test

import (
	"math"
	"slices"
	"strings"
	"testing"

	"darning/api"
	"darning/valid"
)

// messages is a schema of three: 0 has fields of all sorts, some of the kind Sub, of 0, 1 and 2; 1 has the same numbers for others; 2 has none.
func messages() api.Schema {
	return api.Schema{
		{Name: "m", Fields: []api.Field{
			{Name: "n", Number: 3, Kind: api.Sub, Of: 1},
			{Name: "i", Number: 1, Kind: api.Int32, Repeated: true},
			{Name: "s", Number: 2, Kind: api.String},
			{Name: "y", Number: 4, Kind: api.Bytes, Repeated: true},
			{Name: "m", Number: 5, Kind: api.Sub, Repeated: true},
			{Name: "t", Number: 6, Kind: api.String, Repeated: true},
			{Name: "x", Number: 7, Kind: api.Fixed32, Repeated: true, Packed: true},
			{Name: "o", Number: 16, Kind: api.Bool},
			{Name: "e", Number: 9, Kind: api.Sub, Repeated: true, Of: 2},
		}},
		{Name: "n", Fields: []api.Field{
			{Name: "m", Number: 1, Kind: api.Sub},
			{Name: "d", Number: 2, Kind: api.Double, Repeated: true},
			{Name: "s", Number: 3, Kind: api.String},
			{Name: "q", Number: 4, Kind: api.Sint64, Repeated: true, Packed: true},
		}},
		{Name: "e"},
	}
}

// varint is a word as a minimal varint, and so many bytes more.
func varint(w uint64, more int) string {
	b := ""
	for ; w >= 128; w /= 128 {
		b += string([]byte{byte(128 + w%128)})
	}
	if more == 0 {
		return b + string([]byte{byte(w)})
	}
	return b + string([]byte{byte(128 + w)}) + strings.Repeat("\x80", more-1) + "\x00"
}

// tag is a record's, and so many bytes more than it needs.
func tag(number, wire, more int) string { return varint(8*uint64(number)+uint64(wire), more) }

// long is a record of wire type 2.
func long(number int, value string) string {
	return tag(number, 2, 0) + varint(uint64(len(value)), 0) + value
}

// piece is a record, or what is none.
type piece struct {
	bytes string // all of it; of a known message's record what is ahead of its value
	why   api.Code
	sub   bool
	in    []piece // of a message's record
}

// text is a piece's bytes.
func (p piece) text() string { return p.bytes + textOf(p.in) }

// textOf is all pieces' bytes, one behind the other.
func textOf(l []piece) string {
	b := ""
	for _, p := range l {
		b += p.text()
	}
	return b
}

// judge tells by the document what isn't right first in a message of these pieces, within d.
func judge(l []piece, d int) (place int, why api.Code) {
	at := 0
	for _, p := range l {
		switch {
		case p.why != api.Fine:
			return at, p.why
		case p.sub && d == 0:
			return at, api.Depth
		case p.sub:
			if place, why := judge(p.in, d-1); why != api.Fine {
				return at + len(p.bytes) + place, why
			}
		}
		at += len(p.text())
	}
	return 0, api.Fine
}

// levels are how many lie in each other in these pieces.
func levels(l []piece) int {
	most := 0
	for _, p := range l {
		if p.sub {
			most = max(most, 1+levels(p.in))
		}
	}
	return most
}

// leaves are records of a message, but for known messages' ones, and what is none.
func leaves(message int) []piece {
	l := []piece{
		{bytes: "\xa0\x01\x07"}, {bytes: "\x52\x03\x0a\x01\x80"}, {bytes: "\x55\xff\xff\xff\xff"}, {bytes: "\xd1\x80\x00\xff\xff\xff\xff\xff\xff\xff\xff"}, {bytes: "\xa2\x01\x81\x00\xff"}, // unknown in all
		{bytes: "\x00\x01", why: api.Tag}, {bytes: "\x0b", why: api.Tag}, {bytes: "\xff\xff\xff\xff\xff\xff\xff\xff\xff\x02", why: api.Over}, {bytes: "\xa0\x01\xff\xff\xff\xff\xff\xff\xff\xff\xff\x02", why: api.Over},
	}
	switch message {
	case 0:
		return append(l, piece{bytes: "\x08\x01"}, piece{bytes: "\x0a\x03\x01\xac\x02"}, piece{bytes: "\x88\x00\x81\x00"}, piece{bytes: "\x0a\x00"}, piece{bytes: "\x12\x03a\xc3\xa9"}, piece{bytes: "\x22\x01\xff"}, piece{bytes: "\x32\x80\x00"}, piece{bytes: "\x3a\x04\x00\x01\x02\x03"}, piece{bytes: "\x3d\x80\x80\x80\x80"}, piece{bytes: "\x80\x01\x02"},
			piece{bytes: "\x0a\x01\x80", why: api.Short}, piece{bytes: "\x0a\x0b\x01\xff\xff\xff\xff\xff\xff\xff\xff\xff\x02", why: api.Over}, piece{bytes: "\x12\x01\xff", why: api.Utf}, piece{bytes: "\x32\x02a\xc3", why: api.Utf}, piece{bytes: "\x3a\x05\x00\x01\x02\x03\x04", why: api.Short}, piece{bytes: "\x10\x01", why: api.Wire}, piece{bytes: "\x82\x01\x01\x01", why: api.Wire}, piece{bytes: "\x18\x01", why: api.Wire})
	case 1:
		return append(l, piece{bytes: "\x12\x08\x00\x01\x02\x03\x04\x05\x06\x07"}, piece{bytes: "\x11\x00\x01\x02\x03\x04\x05\x06\x07"}, piece{bytes: "\x1a\x01a"}, piece{bytes: "\x22\x02\x80\x00"}, piece{bytes: "\x28\x01"}, piece{bytes: "\x3a\x01\xff"},
			piece{bytes: "\x12\x04\x00\x01\x02\x03", why: api.Short}, piece{bytes: "\x1a\x01\x80", why: api.Utf}, piece{bytes: "\x08\x01", why: api.Wire}, piece{bytes: "\x22\x02\x01\x80", why: api.Short})
	}
	return append(l, piece{bytes: "\x08\x01"}, piece{bytes: "\x12\x01\xff"}, piece{bytes: "\x1a\x02\x0a\x00"})
}

// ends are what can't be told where the bytes, or those of a message, end.
func ends(message int) []piece {
	l := []piece{{bytes: "\xa0", why: api.Short}, {bytes: "\xa0\x01\x80", why: api.Short}, {bytes: "\x52\x01", why: api.Short}, {bytes: "\x51\x00\x00\x00\x00\x00\x00\x00", why: api.Short}}
	switch message {
	case 0:
		return append(l, piece{bytes: "\x1a\x01", why: api.Short}, piece{bytes: "\x12\x02\xff", why: api.Short}, piece{bytes: "\x2a\xff\xff\xff\xff\xff\xff\xff\xff\xff\x01", why: api.Short}, piece{bytes: "\x10", why: api.Short})
	case 1:
		return append(l, piece{bytes: "\x0a\x02\x08", why: api.Short}, piece{bytes: "\x22\x01", why: api.Short}, piece{bytes: "\x08\x80", why: api.Short})
	}
	return l
}

// whole is a message's record with these pieces in it; its tag and length may have more bytes than they need.
func whole(number, more int, in []piece) piece {
	head := tag(number, 2, more) + varint(uint64(len(textOf(in))), more)
	return piece{bytes: head, sub: true, in: in}
}

// subs are records of the fields of the kind Sub of a message, with some rows of that many levels in them.
func subs(message, level int) []piece {
	if level < 0 {
		return nil
	}
	var l []piece
	add := func(number, of int) {
		for i, in := range some(rows(of, level-1), 16, number+level) {
			l = append(l, whole(number, i%3, in))
		}
	}
	switch message {
	case 0:
		add(3, 1)
		add(5, 0)
		add(9, 2)
	case 1:
		add(1, 0)
	}
	return l
}

// rows are no pieces, one alone, all of two, some of three, and some with what can't be told at the end.
func rows(message, level int) [][]piece {
	all, last := append(leaves(message), subs(message, level)...), ends(message)
	l := [][]piece{nil}
	for i, p := range all {
		l = append(l, []piece{p}, []piece{p, last[i%len(last)]}, []piece{p, all[(7*i+3)%len(all)], all[(5*i+1)%len(all)]})
		for _, q := range all {
			l = append(l, []piece{p, q})
		}
	}
	for _, p := range last {
		l = append(l, []piece{p})
	}
	return l
}

// some are as many rows as wanted, from all over a list; of another turn others.
func some(l [][]piece, count, turn int) [][]piece {
	var few [][]piece
	for i := range count {
		few = append(few, l[(i*len(l)/count+31*i+turn)%len(l)])
	}
	return few
}

// each hands on rows of the messages, of up to three levels.
func each(try func(root int, l []piece)) {
	for root := range 3 {
		for level := range 4 {
			for _, l := range rows(root, level-1) {
				try(root, l)
			}
		}
	}
}

// copyOf is a schema in new memory.
func copyOf(s api.Schema) api.Schema {
	var c api.Schema
	for _, m := range s {
		c = append(c, api.Message{Name: m.Name, Fields: slices.Clone(m.Fields)})
	}
	return c
}

// same tells whether two schemas are the same.
func same(a, b api.Schema) bool {
	return slices.EqualFunc(a, b, func(m, n api.Message) bool { return m.Name == n.Name && slices.Equal(m.Fields, n.Fields) })
}

// holds asks all calls of bytes, of which Check and Is within d, and holds them against what they must tell; valid bytes are as deep as told.
func holds(t *testing.T, s api.Schema, root int, b string, d, place int, why api.Code) {
	t.Helper()
	c := []byte(b)
	if at, e := valid.Check(s, root, c, d); at != place || e != why {
		t.Fatalf("Check of %q, %d within %d: %d, %v, not %d, %v", b, root, d, at, e, place, why)
	}
	if is := valid.Is(s, root, c, d); is != (why == api.Fine) {
		t.Fatalf("Is of %q, %d within %d: %v", b, root, d, is)
	}
	if string(c) != b {
		t.Fatalf("%q was changed to %q", b, c)
	}
}

// deep asks Depth, and holds it against what it must tell.
func deep(t *testing.T, s api.Schema, root int, b string, depth int, why api.Code) {
	t.Helper()
	c := []byte(b)
	if n, e := valid.Depth(s, root, c); n != depth || e != why {
		t.Fatalf("Depth of %q, %d: %d, %v, not %d, %v", b, root, n, e, depth, why)
	}
	if string(c) != b {
		t.Fatalf("%q was changed to %q", b, c)
	}
}

// P11.1: the calls are as the document defines them, for all rows of pieces, within all depths up to that of the deepest, and more.
func TestRows(t *testing.T) {
	s, count := messages(), map[api.Code]int{}
	each(func(root int, l []piece) {
		b := textOf(l)
		for _, d := range []int{0, 1, 2, 3, 4, 64} {
			place, why := judge(l, d)
			holds(t, s, root, b, d, place, why)
			count[why]++
		}
		_, why := judge(l, 64)
		depth := 0
		if why == api.Fine {
			depth = levels(l)
		}
		deep(t, s, root, b, depth, why)
	})
	for _, why := range []api.Code{api.Fine, api.Short, api.Over, api.Tag, api.Wire, api.Utf, api.Depth} {
		if count[why] < 100 {
			t.Errorf("only %d rows that tell %v", count[why], why)
		}
	}
	if !same(s, messages()) {
		t.Errorf("the schema was changed to %v", s)
	}
}

// P11.2: valid within d is valid within more; two valid messages, one behind the other, are valid, and as deep as the deeper one.
func TestTogether(t *testing.T) {
	s := messages()
	for root := range 3 {
		var l []string
		for _, r := range some(rows(root, 2), 600, root) {
			b := textOf(r)
			n, e := valid.Depth(s, root, []byte(b))
			if e != api.Fine {
				continue
			}
			l = append(l, b)
			for d := range 65 {
				if valid.Is(s, root, []byte(b), d) != (d >= n) {
					t.Fatalf("%q, %d deep, within %d: %v", b, n, d, d < n)
				}
			}
		}
		for i, a := range l {
			for _, b := range []string{l[(3*i+1)%len(l)], l[(5*i+2)%len(l)], a, ""} {
				n, _ := valid.Depth(s, root, []byte(a))
				m, _ := valid.Depth(s, root, []byte(b))
				most := max(n, m)
				deep(t, s, root, a+b, most, api.Fine)
				holds(t, s, root, a+b, most, 0, api.Fine)
			}
		}
	}
}

// wireOf is a kind's wire type, as the chapter of kinds lists them.
func wireOf(k int) int {
	switch k {
	case 9, 10, 11:
		return 5
	case 12, 13, 14:
		return 1
	case 15, 16, 17:
		return 2
	}
	return 0
}

// widthOf is how many bytes each value of a run has, of wire type 1 and 5.
func widthOf(wire int) int { return map[int]int{1: 8, 5: 4}[wire] }

// recordOf is a record of the number 5 of a wire type, with bytes that aren't a right text, a run of varints, or a message.
func recordOf(wire int) string {
	switch wire {
	case 0:
		return "\x28\xff\xff\xff\xff\xff\xff\xff\xff\xff\x01"
	case 1:
		return "\x29\xff\xff\xff\xff\xff\xff\xff\xff"
	case 2:
		return "\x2a\x01\xff"
	}
	return "\x2d\xff\xff\xff\xff"
}

// P11.1: what a record of each wire type is to a field of each kind, Repeated or not, Packed or not.
func TestKinds(t *testing.T) {
	for k := 1; k <= 17; k++ {
		for _, f := range []api.Field{{}, {Repeated: true}, {Repeated: true, Packed: true}} {
			f.Name, f.Number, f.Kind = "f", 5, k
			number := wireOf(k) != 2
			if f.Packed && !number {
				continue
			}
			s := api.Schema{{Name: "m", Fields: []api.Field{{Name: "a", Number: 1, Kind: api.Int32}, f}}}
			for _, wire := range []int{0, 1, 2, 5} {
				why := api.Wire
				switch {
				case k == api.String && wire == 2:
					why = api.Utf
				case k == api.Sub && wire == 2:
					holds(t, s, 0, "\x08\x01"+recordOf(wire), 0, 2, api.Depth)
					holds(t, s, 0, "\x08\x01"+recordOf(wire), 1, 4, api.Short)
					continue
				case wireOf(k) == wire:
					why = api.Fine
				case number && wire == 2 && f.Repeated: // 255 ends too early: no varint, no four or eight bytes
					why = api.Short
				}
				place := 2
				if why == api.Fine {
					place = 0
				}
				holds(t, s, 0, "\x08\x01"+recordOf(wire), 64, place, why)
				holds(t, s, 0, "\x08\x01"+recordOf(wire)+"\x10\x01", 0, place, why)
			}
		}
	}
}

// P11.1: a run is one of its field's kind, whatever Packed says; each value may be of any word.
func TestRuns(t *testing.T) {
	ten := strings.Repeat("\xff", 9)
	for k := 1; k <= 14; k++ {
		wire := wireOf(k)
		for _, packed := range []bool{false, true} {
			s := api.Schema{{Name: "m", Fields: []api.Field{{Name: "f", Number: 5, Kind: k, Repeated: true, Packed: packed}, {Name: "n", Number: 1, Kind: api.Sub}}}}
			value := func(b string, why api.Code) {
				run := long(5, b)
				lead := "\x2a\x00\x32\x01\xff"
				if why == api.Fine {
					holds(t, s, 0, lead+run+run, 0, 0, api.Fine)
					holds(t, s, 0, "\x0a"+varint(uint64(len(run)), 0)+run, 1, 0, api.Fine)
					return
				}
				holds(t, s, 0, run, 0, 0, why)
				holds(t, s, 0, lead+run+"\x28", 0, len(lead), why)
				holds(t, s, 0, lead+long(1, lead+run)+"\x28", 64, 2*len(lead)+2, why)
			}
			if wire == 0 {
				for _, v := range []string{"", "\x00", "\x07", "\x80\x00", ten + "\x01", ten + "\x00", "\xff\xff\xff\xff\x1f", "\x01\x80\x80\x00\xac\x02" + ten + "\x01"} {
					value(v, api.Fine)
					value(v+v, api.Fine)
					value(v+"\x80", api.Short)
					value(v+ten, api.Short)
					value(v+ten+"\x02\x00", api.Over)
					value(v+ten+"\x80\x00", api.Over)
					value(v+ten+"\x7f\x80", api.Over)
				}
				continue
			}
			for n := range 40 {
				why := api.Fine
				if n%widthOf(wire) != 0 {
					why = api.Short
				}
				value(strings.Repeat("\xff", n), why)
			}
		}
	}
}

// P11.1: values one by one, not as runs, are right whatever their words are.
func TestValues(t *testing.T) {
	for k := 1; k <= 8; k++ {
		s := api.Schema{{Name: "m", Fields: []api.Field{{Name: "f", Number: 5, Kind: k, Repeated: k%2 == 0}}}}
		for _, v := range []string{"\x00", "\x01", "\x02", "\x80\x00", "\x80\x80\x80\x80\x80\x80\x80\x80\x80\x01", "\xff\xff\xff\xff\xff\xff\xff\xff\xff\x01", "\xff\xff\xff\xff\x1f", "\x80\x80\x80\x80\x80\x80\x80\x80\x80\x00"} {
			holds(t, s, 0, "\x28"+v+"\x28"+v, 0, 0, api.Fine)
			holds(t, s, 0, "\x28"+v+"\x28"+v[:len(v)-1], 0, 1+len(v), api.Short)
			holds(t, s, 0, "\x28"+v+"\x28\xff\xff\xff\xff\xff\xff\xff\xff\xff\x02", 0, 1+len(v), api.Over)
		}
	}
}

// P11.1: a string's value is a right text; that of bytes, and of an unknown record, may be any.
func TestTexts(t *testing.T) {
	s := api.Schema{{Name: "m", Fields: []api.Field{{Name: "s", Number: 1, Kind: api.String}, {Name: "t", Number: 2, Kind: api.String, Repeated: true}, {Name: "y", Number: 3, Kind: api.Bytes}, {Name: "z", Number: 4, Kind: api.Bytes, Repeated: true}, {Name: "n", Number: 5, Kind: api.Sub}}}}
	right := []string{"", "a", "\x00", "\x7f", "\xc2\x80", "\xdf\xbf", "\xe0\xa0\x80", "\xed\x9f\xbf", "\xee\x80\x80", "\xef\xbf\xbf", "\xf0\x90\x80\x80", "\xf4\x8f\xbf\xbf", "a\xc3\xa9b", strings.Repeat("\xe2\x82\xac", 200)}
	wrong := []string{"\x80", "\xbf", "\xff", "\xc3", "\xc0\x80", "\xc1\xbf", "\xe0\x9f\xbf", "\xed\xa0\x80", "\xed\xbf\xbf", "\xf0\x8f\xbf\xbf", "\xf4\x90\x80\x80", "\xf8\x88\x80\x80\x80", "a\xffb", "\xe2\x82", "\xe2\x82a", "\xc3\xa9\xa9", strings.Repeat("a", 200) + "\xff"}
	texts := len(right)
	for i, v := range slices.Concat(right, wrong) {
		for number := 1; number <= 6; number++ {
			b := long(number, v)
			in := long(6, "\xff") + b
			why := api.Fine
			switch {
			case number == 5:
				continue
			case number <= 2 && i >= texts:
				why = api.Utf
			}
			place, inner := 0, 0
			if why != api.Fine {
				place, inner = 3, 5
				if len(in) >= 128 {
					inner++
				}
			}
			holds(t, s, 0, long(6, "\xff")+b, 0, place, why)
			holds(t, s, 0, long(5, in)+"\x2a\x00", 1, inner, why)
		}
	}
}

// P11.1: of more than one thing that isn't right, the first one is told; of one record, what can't be told comes first; what lies behind plays no part.
func TestOrder(t *testing.T) {
	s := messages()
	for _, c := range []struct {
		b     string
		d     int
		place int
		why   api.Code
	}{
		{"\x12\x01\xff\x10", 0, 0, api.Utf}, // the first record's text, not the second one's end
		{"\x12\x01\xff\x00\x00", 0, 0, api.Utf},
		{"\x12\x01\xff\x10\x01", 0, 0, api.Utf},
		{"\x12\x01\xff\x0a\x01\x80", 0, 0, api.Utf},
		{"\x12\x01\xff\x1a\x00", 0, 0, api.Utf},
		{"\x12\x01\xff\x22\x03\x01", 0, 0, api.Utf},
		{"\x0a\x01\x80\x12\x01\xff", 0, 0, api.Short},
		{"\x0a\x01\x80\x00", 0, 0, api.Short},
		{"\x0a\x0a\xff\xff\xff\xff\xff\xff\xff\xff\xff\x02\x12\x01\xff", 0, 0, api.Over},
		{"\x1a\x00\x12\x01\xff", 0, 0, api.Depth},
		{"\x1a\x00\x10", 0, 0, api.Depth},
		{"\x1a\x00\x10\x01", 0, 0, api.Depth},
		{"\x1a\x00\x00", 0, 0, api.Depth},
		{"\x1a\x00\x10", 1, 2, api.Short},
		{"\x1a\x02\x10\x01\x10", 1, 2, api.Wire},
		{"\x1a\x02\x10\x01\x12\x01\xff", 0, 0, api.Depth}, // what is too deep isn't looked into
		{"\x1a\x01\x10\x12\x01\xff", 1, 2, api.Short},
		{"\x10\x01\x12\x01\xff", 0, 0, api.Wire},
		{"\x00\x12\x01\xff", 0, 0, api.Tag},
		{"\x08\x01\x12\x01\xff\x10\x01", 0, 2, api.Utf},
		{"\x12\x02\xff", 0, 0, api.Short}, // one record: it isn't all there
		{"\x1a\x01", 0, 0, api.Short},
		{"\x1a\x03\x12\x01\xff", 0, 0, api.Depth},
		{"\x0a\x02\x80", 0, 0, api.Short},
		{"\x1a", 0, 0, api.Short},
		{"\x1a\xff\xff\xff\xff\xff\xff\xff\xff\xff\x02", 0, 0, api.Over},
		{"\x18\x01", 0, 0, api.Wire}, // one record: it doesn't fit, so it isn't too deep
		{"\x1d\x00\x00\x00\x00", 0, 0, api.Wire},
		{"\x18\x80", 0, 0, api.Short}, // what can't be read comes ahead of what doesn't fit
		{"\x1a\x06\x0a\x04\x12\x02\xff\xff\x1a\x00", 2, 4, api.Utf},
		{"\x1a\x06\x0a\x04\x12\x02\xff\xff\x1a\x00", 1, 2, api.Depth},
		{"\x1a\x06\x0a\x04\x12\x02\xff\xff\x1a\x00", 0, 0, api.Depth},
		{"\x2a\x02\x2a\x00\x12\x01\xff", 1, 2, api.Depth}, // too deep in the first one, ahead of the next one
		{"\x2a\x02\x2a\x00\x12\x01\xff", 2, 4, api.Utf},
	} {
		holds(t, s, 0, c.b, c.d, c.place, c.why)
	}
}

// P11.1: a message's records end where it ends, though there are bytes behind it that would do.
func TestMessagesEnds(t *testing.T) {
	s := messages()
	for _, c := range []struct {
		b     string
		place int
		why   api.Code
	}{
		{"\x2a\x02\x12\x01a", 2, api.Short},
		{"\x2a\x03\x12\x01a", 0, api.Fine},
		{"\x2a\x01\x08\x01", 2, api.Short},
		{"\x2a\x02\x08\x01", 0, api.Fine},
		{"\x2a\x02\x08\x80\x01", 2, api.Short},
		{"\x2a\x01\x80\x01\x01", 2, api.Short},
		{"\x2a\x04\x3d\x00\x00\x00\x00", 2, api.Short},
		{"\x2a\x04\x2a\x03\x12\x01a", 2, api.Short},
		{"\x2a\x04\x2a\x02\x12\x01a", 4, api.Short},
		{"\x2a\x05\x2a\x03\x12\x01a", 0, api.Fine},
		{"\x2a\x07\x08\x01\x2a\x03\x12\x01\xff", 6, api.Utf},
		{"\x08\x01\x2a\x80\x00\xaa\x00\x87\x80\x00\x08\x01\x2a\x03\x12\x01\xff", 14, api.Utf}, // tags and lengths that aren't minimal count
		{"\x2a\x03\x0a\x01\x80\x01", 2, api.Short},
		{"\x0a\x01\x80\x01", 0, api.Short},
		{"\x12\x01\xc3\xa9\x00", 0, api.Utf},
		{"\x3a\x03\x00\x00\x00\x00", 0, api.Short},
	} {
		holds(t, s, 0, c.b, 64, c.place, c.why)
	}
	// What lies behind the slice isn't looked at.
	const all = "\x2a\x03\x12\x01a\x08\x01\x12\x01\xff"
	room := []byte(all)
	for n, want := range map[int]struct {
		place int
		why   api.Code
	}{0: {}, 1: {0, api.Short}, 2: {0, api.Short}, 4: {0, api.Short}, 5: {}, 6: {5, api.Short}, 7: {}, 9: {7, api.Short}, 10: {7, api.Utf}} {
		if place, e := valid.Check(s, 0, room[:n], 1); place != want.place || e != want.why {
			t.Errorf("Check of %d bytes: %d, %v", n, place, e)
		}
		if string(room) != all {
			t.Fatalf("by Check of %d bytes, all were changed to %q", n, room)
		}
	}
}

// P11.1: a message's value is one of the message Of; one number may be of another field in each.
func TestOf(t *testing.T) {
	// Each message has the number 1 of another kind, and 2 for the next message.
	var s api.Schema
	for i := range 100 {
		name := "m" + strings.Repeat("x", i%50) + strings.Repeat("y", i/50)
		s = append(s, api.Message{Name: name, Fields: []api.Field{
			{Name: "a", Number: 1, Kind: i%14 + 1, Repeated: true},
			{Name: "b", Number: 2, Kind: api.Sub, Of: (i + 1) % 100},
			{Name: "c", Number: 3, Kind: api.Sub, Of: i},
			{Name: "d", Number: 4, Kind: api.Sub, Repeated: true, Of: 99 - i},
		}})
	}
	fits := []string{"\x08\x01", "\x09\x00\x00\x00\x00\x00\x00\x00\x00", "\x0d\x00\x00\x00\x00"}
	wires := []int{0, 1, 5}
	for root := range 100 {
		for i, b := range fits {
			for step, of := range map[string]int{"": root, "\x12": (root + 1) % 100, "\x1a": root, "\x22": 99 - root} {
				ahead := 0
				c := b
				if step != "" {
					ahead = 2
					c = step + string([]byte{byte(len(b))}) + b
				}
				if wireOf(of%14+1) == wires[i] {
					holds(t, s, root, c, 1, 0, api.Fine)
				} else {
					holds(t, s, root, c, 1, ahead, api.Wire)
				}
			}
			// The same number and wire type, one behind the other, in one message and in another one.
			mine, next := wireOf(root%14+1) == wires[i], wireOf((root+1)%100%14+1) == wires[i]
			in := long(2, b)
			switch {
			case mine && next:
				holds(t, s, root, b+in+b, 1, 0, api.Fine)
				holds(t, s, root, in+b+in, 1, 0, api.Fine)
			case mine:
				holds(t, s, root, b+in, 1, len(b)+2, api.Wire)
			case next:
				holds(t, s, root, in+b, 1, len(in), api.Wire)
			default:
				holds(t, s, root, b+in, 1, 0, api.Wire)
				holds(t, s, root, in+b, 1, 2, api.Wire)
			}
		}
	}
}

// chain is messages of the field 1, in each other, and what lies innermost; and where each of them begins, and what is innermost.
func chain(n int, b string) (string, []int) {
	var lengths []int
	for range n {
		lengths = append(lengths, len(b))
		b = long(1, b)
	}
	places, at := []int{}, 0
	for i := n - 1; i >= 0; i-- {
		places = append(places, at)
		at += 1 + len(varint(uint64(lengths[i]), 0))
	}
	return b, append(places, at)
}

// P11.1: messages in messages, up to the greatest depth, and beyond it.
func TestChains(t *testing.T) {
	s := api.Schema{{Name: "m", Fields: []api.Field{{Name: "n", Number: 1, Kind: api.Sub}, {Name: "s", Number: 2, Kind: api.String}}}}
	for n := range 70 {
		for _, inner := range []struct {
			b   string
			why api.Code
		}{{"", api.Fine}, {"\x12\x01a", api.Fine}, {"\x12\x01\xff", api.Utf}, {"\x08", api.Short}, {"\x08\x01", api.Wire}} {
			b, places := chain(n, inner.b)
			for d := range 65 {
				switch {
				case d < n:
					holds(t, s, 0, b, d, places[d], api.Depth)
				case inner.why != api.Fine:
					holds(t, s, 0, b, d, places[n], inner.why)
				default:
					holds(t, s, 0, b, d, 0, api.Fine)
				}
			}
			switch {
			case n > 64:
				deep(t, s, 0, b, 0, api.Depth)
			case inner.why != api.Fine:
				deep(t, s, 0, b, 0, inner.why)
			default:
				deep(t, s, 0, b, n, api.Fine)
			}
		}
	}
	// Far deeper ones, of which there are no more than the bound looked at.
	b, places := chain(1<<10, "")
	holds(t, s, 0, b, 64, places[64], api.Depth)
	holds(t, s, 0, b, 0, 0, api.Depth)
	deep(t, s, 0, b, 0, api.Depth)
}

// P11.1: the depth is that of the deepest of all, wherever it stands.
func TestDepth(t *testing.T) {
	s := api.Schema{{Name: "m", Fields: []api.Field{{Name: "n", Number: 1, Kind: api.Sub}, {Name: "l", Number: 2, Kind: api.Sub, Repeated: true, Of: 1}, {Name: "y", Number: 3, Kind: api.Bytes}}}, {Name: "o", Fields: []api.Field{{Name: "n", Number: 1, Kind: api.Sub}}}}
	for a := range 6 {
		for b := range 6 {
			for c := range 6 {
				x, _ := chain(a, "")
				y, _ := chain(b, "")
				z, _ := chain(c, "")
				most := max(a, b, c)
				deep(t, s, 0, x+y+z, most, api.Fine)
				deep(t, s, 0, x+long(2, y)+z, max(a, b+1, c), api.Fine)
				deep(t, s, 0, long(2, x+y)+"\x1a\x02\x0a\x00"+long(2, z), most+1, api.Fine)
				deep(t, s, 0, long(3, x)+y+long(9, z), b, api.Fine)
				deep(t, s, 1, x+long(2, y)+z, max(a, c), api.Fine)
			}
		}
	}
	deep(t, s, 0, "", 0, api.Fine)
	deep(t, s, 0, "\x1a\x02\x0a\x00\x22\x02\x0a\x00", 0, api.Fine) // bytes, and unknown records, aren't messages
	x, _ := chain(64, "")
	y, _ := chain(65, "")
	deep(t, s, 0, x+"\x0a\x00", 64, api.Fine)
	deep(t, s, 0, "\x0a\x00"+x, 64, api.Fine)
	deep(t, s, 0, "\x0a\x00"+y, 0, api.Depth)
	deep(t, s, 0, long(2, x), 0, api.Depth)
	deep(t, s, 0, long(3, y)+x, 64, api.Fine)
}

// P11.1: the chapter's example, and those of the whole that speak of valid bytes.
func TestExamples(t *testing.T) {
	own := api.Schema{{Name: "m", Fields: []api.Field{{Name: "a", Number: 1, Kind: api.Sub}}}}
	holds(t, own, 0, "\x0a\x02\x0a\x00", 2, 0, api.Fine)
	holds(t, own, 0, "\x0a\x02\x0a\x00", 1, 2, api.Depth)
	deep(t, own, 0, "\x0a\x02\x0a\x00", 2, api.Fine)
	s := api.Schema{{Name: "m", Fields: []api.Field{{Name: "a", Number: 1, Kind: api.Sub}, {Name: "b", Number: 2, Kind: api.Uint32}, {Name: "s", Number: 4, Kind: api.String}, {Name: "y", Number: 5, Kind: api.Bytes}}}}
	holds(t, s, 0, "\x10\x81\x00", 0, 0, api.Fine)
	holds(t, s, 0, "\x10\x81\x00\x0a\x02\x10\x05", 1, 0, api.Fine)
	holds(t, s, 0, "\x10\x01\x10\x02\x18\x07", 0, 0, api.Fine)
	holds(t, s, 0, "\x10\x01\x22\x03a\xffb\x2a\x05", 0, 2, api.Utf)
	holds(t, s, 0, "\x10\x01\x2a\x03a\xffb", 0, 0, api.Fine)
}

// args asks all calls with these arguments, with bytes that are valid, and that aren't, and holds them against the error.
func args(t *testing.T, s api.Schema, root, d int, why api.Code) {
	t.Helper()
	before := copyOf(s)
	if e := valid.Args(s, root, d); e != why {
		t.Errorf("Args of %v, %d, %d: %v, not %v", s, root, d, e, why)
	}
	for _, b := range []string{"", "\x10\x01", "\x12\x01\xff", "\x08\x01\x10", "\x00"} {
		place, e := valid.Check(s, root, []byte(b), d)
		if why != api.Fine && (place != 0 || e != why || valid.Is(s, root, []byte(b), d)) {
			t.Errorf("Check of %v, %d, %q, %d: %d, %v, not 0, %v", s, root, b, d, place, e, why)
		}
		if b == "" && e != why {
			t.Errorf("Check of %v, %d, no bytes, %d: %v, not %v", s, root, d, e, why)
		}
		// Depth is asked of no d: there d plays no part.
		depth, e := valid.Depth(s, root, []byte(b))
		if (d >= 0 && d <= 64) && why != api.Fine && (depth != 0 || e != why) {
			t.Errorf("Depth of %v, %d, %q: %d, %v, not 0, %v", s, root, b, depth, e, why)
		}
	}
	if !same(s, before) {
		t.Errorf("%v was changed to %v", before, s)
	}
}

// P11.1: a message's number, and a depth, at their ends and beyond them.
func TestArgs(t *testing.T) {
	s := messages()
	many := make(api.Schema, 100)
	for i := range many {
		many[i].Name = strings.Repeat("a", i/50+1) + strings.Repeat("b", i%50)
	}
	numbers := []int{math.MinInt, math.MinInt + 1, math.MinInt32, -65536, -256, -3, -2, -1, 0, 1, 2, 3, 4, 5, 32, 63, 64, 65, 66, 98, 99, 100, 101, 127, 128, 255, 256, 257, 258, 65536, 65537, math.MaxInt32, math.MaxInt - 1, math.MaxInt}
	for n := range 3 {
		if high := uint64(1)<<32 + uint64(n); high < math.MaxInt { // of 32 bits, it would go round to n
			numbers = append(numbers, int(high), -int(high))
		}
	}
	for _, one := range []api.Schema{s[2:], s, many} {
		for _, root := range numbers {
			for _, d := range numbers {
				why := api.Arg
				if root >= 0 && root < len(one) && d >= 0 && d <= 64 {
					why = api.Fine
				}
				args(t, one, root, d, why)
			}
		}
	}
	for _, root := range numbers {
		want := api.Fine
		if root < 0 || root > 2 {
			want = api.Arg
		}
		deep(t, s, root, "", 0, want)
	}
}

// ill is a schema, changed.
func ill(change func(s api.Schema) api.Schema) api.Schema { return change(copyOf(messages())) }

// P11.1: a schema that isn't right is told ahead of all else.
func TestIll(t *testing.T) {
	field := func(change func(f *api.Field)) func(s api.Schema) api.Schema {
		return func(s api.Schema) api.Schema {
			change(&s[1].Fields[3])
			return s
		}
	}
	for _, s := range []api.Schema{
		nil,
		{},
		make(api.Schema, 1),
		make(api.Schema, 101),
		ill(func(s api.Schema) api.Schema { s[2].Name = ""; return s }),
		ill(func(s api.Schema) api.Schema { s[2].Name = "m"; return s }),
		ill(func(s api.Schema) api.Schema { s[2].Fields = make([]api.Field, 201); return s }),
		ill(func(s api.Schema) api.Schema { return append(s, api.Message{Name: "1"}) }),
		ill(field(func(f *api.Field) { f.Name = "q-" })),
		ill(field(func(f *api.Field) { f.Name = "s" })),
		ill(field(func(f *api.Field) { f.Number = 0 })),
		ill(field(func(f *api.Field) { f.Number = 19000 })),
		ill(field(func(f *api.Field) { f.Number = 536870912 })),
		ill(field(func(f *api.Field) { f.Number = 3 })),
		ill(field(func(f *api.Field) { f.Kind = 0 })),
		ill(field(func(f *api.Field) { f.Kind = 18 })),
		ill(field(func(f *api.Field) { f.Repeated = false })),
		ill(field(func(f *api.Field) { f.Kind = api.String })),
		ill(field(func(f *api.Field) { f.Of = 1 })),
		ill(func(s api.Schema) api.Schema { s[0].Fields[0].Of = 3; return s }),
		ill(func(s api.Schema) api.Schema { s[0].Fields[0].Of = -1; return s }),
	} {
		for _, root := range []int{0, 1, 2, -1, 3, 200, math.MaxInt, math.MinInt} {
			for _, d := range []int{0, 1, 64, -1, 65, math.MaxInt, math.MinInt} {
				args(t, s, root, d, api.Ill)
			}
			deep(t, s, root, "\x12\x01\xff", 0, api.Ill)
		}
	}
	args(t, messages(), 2, 64, api.Fine)
}

// R6: nothing is kept: what was told of other bytes, or of another schema, plays no part; nor does what is done to a schema between calls.
func TestNothingIsKept(t *testing.T) {
	s := api.Schema{{Name: "m", Fields: []api.Field{{Name: "a", Number: 5}}}}
	for range 2 {
		for k := 1; k <= 16; k++ {
			s[0].Fields[0].Kind = k
			for _, wire := range []int{0, 1, 5} {
				if wireOf(k) == wire {
					holds(t, s, 0, recordOf(wire), 0, 0, api.Fine)
				} else {
					holds(t, s, 0, recordOf(wire), 0, 0, api.Wire)
				}
			}
		}
		s[0].Fields[0].Number = 6
		holds(t, s, 0, recordOf(0)+recordOf(1)+recordOf(2)+recordOf(5), 0, 0, api.Fine)
		deep(t, s, 0, "", 0, api.Fine)
		s[0].Fields[0].Number = 5
	}
}

// P11.1: a message of the most fields, of the greatest numbers, in an order of their own.
func TestManyFields(t *testing.T) {
	m := api.Message{Name: "m"}
	for i := range 200 {
		m.Fields = append(m.Fields, api.Field{Name: "f" + strings.Repeat("x", i%50) + strings.Repeat("y", i/50), Number: api.MaxNumber - 7*i, Kind: i%17 + 1, Repeated: true})
	}
	s := api.Schema{m}
	values := map[int]string{0: "\x80\x00", 1: "\x00\x00\x00\x00\x00\x00\x00\x00", 2: "\x00", 5: "\x00\x00\x00\x00"}
	for i, f := range m.Fields {
		for _, wire := range []int{0, 1, 2, 5} {
			b := tag(f.Number, wire, 0) + values[wire]
			switch {
			case wireOf(f.Kind) == wire || wire == 2:
				holds(t, s, 0, "\x08\x01"+b, 1, 0, api.Fine)
			default:
				holds(t, s, 0, "\x08\x01"+b, 1, 2, api.Wire)
			}
			holds(t, s, 0, tag(f.Number-1, wire, 0)+values[wire], 0, 0, api.Fine) // unknown
		}
		if f.Kind == api.Sub {
			deep(t, s, 0, long(f.Number, ""), 1, api.Fine)
		}
		if i%17+1 != f.Kind {
			t.Fatalf("the field %d was changed to %v", i, f)
		}
	}
}

// R1: very many records, known and unknown, runs and messages; what isn't right behind them is found.
func TestManyRecords(t *testing.T) {
	const many = 1 << 17
	s := messages()
	for _, c := range []string{"\x08\x01", "\x0a\x01\x01", "\x50\x01", "\x12\x01a", "\x2a\x02\x08\x01", "\x1a\x00", "\x4a\x02\x08\x01"} {
		b := []byte(strings.Repeat(c, many))
		depth := 0
		if c[0] == 0x2a || c[0] == 0x1a || c[0] == 0x4a {
			depth = 1
		}
		if n, e := valid.Depth(s, 0, b); n != depth || e != api.Fine {
			t.Errorf("Depth of many %q: %d, %v", c, n, e)
		}
		if place, e := valid.Check(s, 0, append(b, "\x12\x01\xff"...), 1); place != len(b) || e != api.Utf {
			t.Errorf("Check of many %q, and a text that isn't right: %d, %v", c, place, e)
		}
		in := append([]byte("\x2a"+varint(uint64(len(b)), 0)), b...)
		if place, e := valid.Check(s, 0, append(in, 0), 2); place != len(in) || e != api.Tag {
			t.Errorf("Check of many %q in a message: %d, %v", c, place, e)
		}
	}
	run := strings.Repeat("\xac\x02", many)
	holds(t, s, 0, long(1, run), 0, 0, api.Fine)
	holds(t, s, 0, "\x08\x01"+long(1, run+"\x80"), 0, 2, api.Short)
	text := strings.Repeat("\xc3\xa9", many)
	holds(t, s, 0, long(2, text), 0, 0, api.Fine)
	holds(t, s, 0, "\x08\x01"+long(2, text+"\x80"), 0, 2, api.Utf)
	var all []byte
	for n := 100; n < many; n++ {
		all = append(all, tag(n, 0, 0)+"\x00"...)
	}
	if place, e := valid.Check(s, 0, append(all, 16, 1), 0); place != len(all) || e != api.Wire {
		t.Errorf("Check of many unknown numbers: %d, %v", place, e)
	}
}

// R1: no bytes, nil or empty, are a message of each.
func TestNoBytes(t *testing.T) {
	s := messages()
	for root := range s {
		for _, b := range [][]byte{nil, {}} {
			if place, e := valid.Check(s, root, b, 0); place != 0 || e != api.Fine || !valid.Is(s, root, b, 0) {
				t.Errorf("Check of no bytes: %d, %v", place, e)
			}
			if n, e := valid.Depth(s, root, b); n != 0 || e != api.Fine {
				t.Errorf("Depth of no bytes: %d, %v", n, e)
			}
		}
	}
}
