package merge_test

import (
	"math"
	"slices"
	"strconv"
	"strings"
	"testing"

	"darning/algebra"
	"darning/api"
	"darning/merge"
	"darning/tree"
	"darning/valid"
)

// messages is a schema of three: 0 has fields of all sorts, some of the kind Sub, of 0, 1 and 2; 1 has the same numbers for others; 2 has none.
func messages() api.Schema {
	return api.Schema{
		{Name: "m", Fields: []api.Field{
			{Name: "n", Number: 3, Kind: api.Sub, Of: 1},
			{Name: "i", Number: 1, Kind: api.Int32},
			{Name: "l", Number: 2, Kind: api.Int32, Repeated: true},
			{Name: "s", Number: 4, Kind: api.String},
			{Name: "y", Number: 5, Kind: api.Bytes, Repeated: true},
			{Name: "m", Number: 6, Kind: api.Sub, Repeated: true},
			{Name: "x", Number: 7, Kind: api.Fixed32, Repeated: true, Packed: true},
			{Name: "d", Number: 8, Kind: api.Double},
			{Name: "t", Number: 9, Kind: api.String, Repeated: true},
			{Name: "e", Number: 10, Kind: api.Sub, Of: 2},
			{Name: "b", Number: 11, Kind: api.Bytes},
			{Name: "f", Number: 12, Kind: api.Float},
			{Name: "o", Number: 16, Kind: api.Bool},
		}},
		{Name: "n", Fields: []api.Field{
			{Name: "q", Number: 1, Kind: api.Sint64, Repeated: true},
			{Name: "m", Number: 2, Kind: api.Sub},
			{Name: "i", Number: 3, Kind: api.Uint32},
			{Name: "s", Number: 4, Kind: api.String},
		}},
		{Name: "e"},
	}
}

// ills are schemas that aren't right.
func ills() []api.Schema {
	double, of, name := messages(), messages(), messages()
	double[1].Fields[2].Number = 4
	of[0].Fields[0].Of = 3
	name[2].Name = "1"
	return []api.Schema{nil, {}, make(api.Schema, 1), make(api.Schema, 101), double, of, name}
}

// showSchema as a text.
func showSchema(s api.Schema) string {
	var b strings.Builder
	for _, m := range s {
		b.WriteString(m.Name + ":")
		for _, f := range m.Fields {
			b.WriteString(f.Name + " " + strconv.Itoa(f.Number) + " " + strconv.Itoa(f.Kind) + strconv.FormatBool(f.Repeated) + strconv.FormatBool(f.Packed) + strconv.Itoa(f.Of) + ",")
		}
	}
	return b.String()
}

// varint is a word as a minimal varint.
func varint(w uint64) string {
	b := ""
	for ; w >= 128; w /= 128 {
		b += string([]byte{byte(128 + w%128)})
	}
	return b + string([]byte{byte(w)})
}

// tag is a record's.
func tag(number, wire int) string { return varint(8*uint64(number) + uint64(wire)) }

// long is a record of wire type 2.
func long(number int, value string) string {
	return tag(number, 2) + varint(uint64(len(value))) + value
}

// piece is a record, or what is none.
type piece struct {
	bytes  string
	number int
	last   bool // known, and of a field whose last value alone counts
	depth  int
	why    api.Code
}

// pieces are right records of a message.
func pieces(message int) []piece {
	l := []piece{{bytes: "\xa0\x06\x07", number: 100}, {bytes: "\xa2\x06\x82\x00ab", number: 100}, {bytes: "\xa5\x86\x00\x01\x02\x03\x04", number: 100}, {bytes: "\x68\x01", number: 13}}
	switch message {
	case 0:
		return append(l,
			piece{bytes: "\x08\x01", number: 1, last: true}, piece{bytes: "\x88\x00\x81\x00", number: 1, last: true},
			piece{bytes: "\x10\x05", number: 2}, piece{bytes: "\x12\x02\x05\x06", number: 2}, piece{bytes: "\x12\x00", number: 2},
			piece{bytes: "\x1a\x00", number: 3, depth: 1}, piece{bytes: "\x1a\x02\x18\x07", number: 3, depth: 1}, piece{bytes: "\x1a\x04\x12\x02\x08\x01", number: 3, depth: 2},
			piece{bytes: "\x22\x01a", number: 4, last: true}, piece{bytes: "\x22\x80\x00", number: 4, last: true}, piece{bytes: "\x2a\x01\xff", number: 5},
			piece{bytes: "\x32\x02\x08\x01", number: 6, depth: 1}, piece{bytes: "\x32\x04\x32\x02\x32\x00", number: 6, depth: 3},
			piece{bytes: "\x3a\x04\x01\x02\x03\x04", number: 7}, piece{bytes: "\x3d\x01\x02\x03\x04", number: 7},
			piece{bytes: "\x41\x01\x02\x03\x04\x05\x06\x07\x08", number: 8, last: true}, piece{bytes: "\x4a\x01a", number: 9},
			piece{bytes: "\x52\x00", number: 10, depth: 1}, piece{bytes: "\x52\x02\x08\x01", number: 10, depth: 1},
			piece{bytes: "\x5a\x01\xff", number: 11, last: true}, piece{bytes: "\x65\x01\x02\x03\x04", number: 12, last: true}, piece{bytes: "\x80\x01\x01", number: 16, last: true})
	case 1:
		return append(l,
			piece{bytes: "\x08\x05", number: 1}, piece{bytes: "\x0a\x02\x05\x06", number: 1}, piece{bytes: "\x12\x00", number: 2, depth: 1}, piece{bytes: "\x12\x04\x1a\x02\x18\x01", number: 2, depth: 2},
			piece{bytes: "\x18\x09", number: 3, last: true}, piece{bytes: "\x22\x02\xc3\xa9", number: 4, last: true}, piece{bytes: "\x28\x01", number: 5})
	}
	return append(l, piece{bytes: "\x08\x01", number: 1}, piece{bytes: "\x1a\x01\xff", number: 3})
}

// faults are what isn't right in a message, whatever lies behind it.
func faults(message int) []piece {
	l := []piece{{bytes: "\x00\x01", why: api.Tag}, {bytes: "\x0b", why: api.Tag}, {bytes: "\xa0\x06\xff\xff\xff\xff\xff\xff\xff\xff\xff\x02", why: api.Over}}
	switch message {
	case 0:
		return append(l, piece{bytes: "\x0a\x01\x01", why: api.Wire}, piece{bytes: "\x22\x01\xff", why: api.Utf}, piece{bytes: "\x12\x01\x80", why: api.Short}, piece{bytes: "\x1a\x02\x10\x01", why: api.Wire, depth: 1}, piece{bytes: "\x32\x04\x32\x02\x08\x80", why: api.Short, depth: 2}, piece{bytes: "\x32\x03\x08\x01\x08", why: api.Short, depth: 1})
	case 1:
		return append(l, piece{bytes: "\x0d\x01\x01\x01\x01", why: api.Wire}, piece{bytes: "\x22\x02a\xc3", why: api.Utf}, piece{bytes: "\x12\x02\x22\x00\x12\x02\x22\x01", why: api.Short, depth: 1})
	}
	return l
}

// cuts are what isn't right where a message ends.
func cuts() []piece {
	return []piece{{bytes: "\xa0", why: api.Short}, {bytes: "\xa0\x06", why: api.Short}, {bytes: "\xa2\x06\x05a", why: api.Short}, {bytes: "\x68\x80", why: api.Short}}
}

// text is all pieces' bytes, one behind the other.
func text(l []piece) string {
	b := ""
	for _, p := range l {
		b += p.bytes
	}
	return b
}

// judge tells by the document what isn't right first in a message of these pieces, within d.
func judge(l []piece, d int) api.Code {
	for _, p := range l {
		if p.depth > d {
			return api.Depth
		}
		if p.why != api.Fine {
			return p.why
		}
	}
	return api.Fine
}

// over tells by the chapter's words how many pieces of one message play no part if another one lies behind it.
func over(a, b []piece) int {
	gone := 0
	for _, p := range a {
		if p.last && slices.ContainsFunc(b, func(q piece) bool { return q.number == p.number }) {
			gone++
		}
	}
	return gone
}

// without are the pieces of one message that play a part if another one lies behind it.
func without(a, b []piece) []piece {
	return slices.DeleteFunc(slices.Clone(a), func(p piece) bool { return over([]piece{p}, b) > 0 })
}

// dice are numbers that look like chance, and are the same each time.
type dice uint64

// under tells the next one, from 0 to n - 1.
func (d *dice) under(n int) int {
	*d = *d*6364136223846793005 + 1442695040888963407
	return int(uint64(*d) >> 33 % uint64(n))
}

// rows are messages' pieces: none, one alone, and some together; of each four one isn't right, if wanted.
func rows(message, count int, wrong bool) [][]piece {
	d, all, bad, last := dice(message), pieces(message), faults(message), cuts()
	l := [][]piece{nil}
	for _, p := range all {
		l = append(l, []piece{p})
	}
	for len(l) < count {
		var r []piece
		for range d.under(7) {
			r = append(r, all[d.under(len(all))])
		}
		switch {
		case wrong && len(l)%8 == 0:
			r = slices.Insert(r, d.under(len(r)+1), bad[d.under(len(bad))])
		case wrong && len(l)%8 == 4:
			r = append(r, last[d.under(len(last))])
		}
		l = append(l, r)
	}
	return l
}

// two checks Two, and Over, of two messages.
func two(t *testing.T, s api.Schema, root int, a, b string, d, gone int, why api.Code) {
	t.Helper()
	x, y, want := []byte(a), []byte(b), a+b
	if why != api.Fine {
		want, gone = "", 0
	}
	c, e := merge.Two(s, root, x, y, d)
	if string(c) != want || e != why {
		t.Fatalf("P17.1: Two of %q and %q, %d within %d: %q, %v, not %q, %v", a, b, root, d, c, e, want, why)
	}
	if n, e := merge.Over(s, root, x, y, d); n != gone || e != why {
		t.Fatalf("P17.2: Over of %q and %q, %d within %d: %d, %v, not %d, %v", a, b, root, d, n, e, gone, why)
	}
	for i := range c {
		c[i]++
	}
	if string(x) != a || string(y) != b {
		t.Fatalf("R4: Two, or Over: %q and %q were changed to %q and %q", a, b, x, y)
	}
	if c, _ = merge.Two(s, root, x, y, d); string(c) != want {
		t.Fatalf("R4: what Two told was changed, and so was what it told behind that: %q, not %q", c, want)
	}
}

// all checks All of messages.
func all(t *testing.T, s api.Schema, root int, l []string, d, number int, why api.Code) {
	t.Helper()
	in, want := make([][]byte, len(l)), strings.Join(l, "")
	for i, b := range l {
		in[i] = []byte(b)
	}
	if why != api.Fine {
		want = ""
	}
	c, n, e := merge.All(s, root, in, d)
	if string(c) != want || n != number || e != why {
		t.Fatalf("P17.1: All of %q, %d within %d: %q, %d, %v, not %q, %d, %v", l, root, d, c, n, e, want, number, why)
	}
	for i := range c {
		c[i]++
	}
	for i, b := range l {
		if string(in[i]) != b {
			t.Fatalf("R4: All: %q was changed to %q", b, in[i])
		}
	}
	if c, _, _ = merge.All(s, root, in, d); string(c) != want {
		t.Fatalf("R4: what All told was changed, and so was what it told behind that: %q, not %q", c, want)
	}
}

// splits checks Splits of a message.
func splits(t *testing.T, s api.Schema, root int, b string, d int, want []int, why api.Code) {
	t.Helper()
	x := []byte(b)
	l, e := merge.Splits(s, root, x, d)
	if !slices.Equal(l, want) || e != why {
		t.Fatalf("P17.2: Splits of %q, %d within %d: %v, %v, not %v, %v", b, root, d, l, e, want, why)
	}
	for i := range l {
		l[i]++
	}
	if string(x) != b {
		t.Fatalf("R4: Splits: %q was changed to %q", b, x)
	}
	if l, _ = merge.Splits(s, root, x, d); !slices.Equal(l, want) {
		t.Fatalf("R4: what Splits told was changed, and so was what it told behind that: %v, not %v", l, want)
	}
}

// depths are those within which messages are looked at.
func depths() []int { return []int{0, 1, 2, 3, 64} }

// P17.1, P17.2: pairs of messages of all sorts, right and not; the first one's error comes first.
func TestTwo(t *testing.T) {
	s, count := messages(), map[api.Code]int{}
	for root := range s {
		l := rows(root, 300, true)
		for i, a := range l {
			for _, b := range [][]piece{a, nil, l[(7*i+3)%len(l)], l[(31*i+8)%len(l)], l[(i*i+1)%len(l)]} {
				for _, d := range depths() {
					why := judge(a, d)
					if why == api.Fine {
						why = judge(b, d)
					}
					count[why]++
					two(t, s, root, text(a), text(b), d, over(a, b), why)
				}
			}
		}
	}
	for _, why := range []api.Code{api.Fine, api.Short, api.Over, api.Tag, api.Wire, api.Utf, api.Depth} {
		if count[why] < 100 {
			t.Errorf("only %d pairs that tell %v", count[why], why)
		}
	}
	if showSchema(s) != showSchema(messages()) {
		t.Error("R4: the schema was changed")
	}
}

// mean is what bytes mean.
func mean(t *testing.T, s api.Schema, root int, b string) tree.Msg {
	t.Helper()
	x, e := tree.Of(s, root, []byte(b), 64)
	if e != api.Fine {
		t.Fatalf("%q, %d, isn't valid: %v", b, root, e)
	}
	return x
}

// P17.1, T1: merged means both meanings, joined; P17.2: records that play no part may be left out.
func TestMeaning(t *testing.T) {
	s := messages()
	gone := 0
	for root := range s {
		l := rows(root, 1500, false)
		for i, a := range l {
			b := l[(13*i+5)%len(l)]
			c, e := merge.Two(s, root, []byte(text(a)), []byte(text(b)), 64)
			if e != api.Fine {
				t.Fatalf("P17.1: Two of %q and %q: %v", text(a), text(b), e)
			}
			x := mean(t, s, root, string(c))
			y, e := algebra.Join(s, root, mean(t, s, root, text(a)), mean(t, s, root, text(b)))
			if e != api.Fine || !tree.Same(x, y) {
				t.Fatalf("T1: %q and %q, merged, mean %v, not %v", text(a), text(b), x, y)
			}
			if !tree.Same(x, mean(t, s, root, text(without(a, b))+text(b))) {
				t.Fatalf("P17.2: of %q, in front of %q, records played a part", text(a), text(b))
			}
			gone += over(a, b)
		}
	}
	if gone < 300 {
		t.Errorf("only %d records played no part", gone)
	}
}

// P17.1: lists of messages; of those that aren't valid the first one is told.
func TestAll(t *testing.T) {
	s, dice := messages(), dice(1)
	for root := range s {
		wrong := 0
		l := rows(root, 300, true)
		for turn := range 2000 {
			var in []string
			d := depths()[dice.under(5)]
			number, why := 0, api.Fine
			for i := range turn % 9 {
				r := l[dice.under(len(l))]
				if dice.under(4) > 0 {
					r = l[1+dice.under(4)]
				}
				in = append(in, text(r))
				if e := judge(r, d); why == api.Fine && e != api.Fine {
					number, why = i, e
				}
			}
			if why != api.Fine {
				wrong++
			}
			all(t, s, root, in, d, number, why)
		}
		if wrong < 400 || wrong > 1600 {
			t.Errorf("%d of 2000 lists aren't valid", wrong)
		}
	}
}

// first tells of which message valid.Check tells an error first.
func first(s api.Schema, root int, l []string, d int) (int, api.Code) {
	for i, b := range l {
		if _, e := valid.Check(s, root, []byte(b), d); e != api.Fine {
			return i, e
		}
	}
	return 0, api.Fine
}

// P17.1: what is valid in one piece, or isn't, cut in three at all places: each part must be valid by itself.
func TestAllCut(t *testing.T) {
	s := messages()
	for root := range s {
		for i, r := range rows(root, 70, true) {
			b, d := text(r), depths()[i%5]
			for p := range len(b) + 1 {
				for q := p; q <= len(b); q++ {
					l := []string{b[:p], b[p:q], b[q:]}
					number, why := first(s, root, l, d)
					all(t, s, root, l, d, number, why)
				}
			}
		}
	}
}

// P17.1: lists written out.
func TestAllWritten(t *testing.T) {
	s := messages()
	for _, c := range []struct {
		l      []string
		d      int
		number int
		why    api.Code
	}{
		{nil, 0, 0, api.Fine}, {[]string{}, 64, 0, api.Fine}, {[]string{""}, 0, 0, api.Fine}, {[]string{"", "", ""}, 0, 0, api.Fine},
		{[]string{"\x08\x01"}, 0, 0, api.Fine}, {[]string{"\x08\x01", "", "\x08\x02", "\x08\x01"}, 0, 0, api.Fine},
		{[]string{"\x08", "\x01"}, 0, 0, api.Short}, {[]string{"", "\x08", "\x01"}, 0, 1, api.Short}, {[]string{"\x08\x01\x08", "", "\x01"}, 0, 0, api.Short},
		{[]string{"\x08\x01", "\x22\x03a", "\x08\x01"}, 0, 1, api.Short}, {[]string{"\x22\x02", "\x08\x01"}, 0, 0, api.Short},
		{[]string{"\x08\x81", "\x00"}, 0, 0, api.Short}, {[]string{"\x88", "\x00\x01"}, 0, 0, api.Short}, {[]string{"\x08\x01", "\x00\x01", "\x08"}, 0, 1, api.Tag},
		{[]string{"\x32\x02\x08\x01", "\x32\x02\x32\x00", "\x08"}, 1, 1, api.Depth}, {[]string{"\x32\x02\x32\x00", "\x08\x01"}, 2, 0, api.Fine},
		{[]string{"\x08\x01", "", "\x32\x04\x32\x02\x08\x80", ""}, 64, 2, api.Short}, {[]string{"\x08\x01", "", "\x32\x04\x32\x02\x08", "\x80"}, 64, 2, api.Short},
		{[]string{"\x08\x01", "\x32\x01\x08", "\x01"}, 1, 1, api.Short}, {[]string{"\x32\x01\x0b"}, 1, 0, api.Tag}, {[]string{"", "\x32\x03\x32\x01\x0b", "\x08"}, 2, 1, api.Tag},
		{[]string{"\x22\x01\xff"}, 0, 0, api.Utf}, {[]string{"\x22\x01", "\xff"}, 0, 0, api.Short}, {[]string{"\x22\x02\xc3", "\xa9"}, 0, 0, api.Short}, {[]string{"\x22\x01\xc3", "\xa9"}, 0, 0, api.Utf},
		{[]string{"\x08\x01", "\x10\x01", "\x0d\x01\x01\x01\x01"}, 0, 2, api.Wire}, {[]string{"\x0d\x01\x01", "\x01\x01"}, 0, 0, api.Short},
		{[]string{"\x08\xff\xff\xff\xff\xff\xff\xff\xff\xff", "\x02"}, 0, 0, api.Short}, {[]string{"", "\x08\xff\xff\xff\xff\xff\xff\xff\xff\xff\x02"}, 0, 1, api.Over},
		{[]string{"\xa0\x06\x07", "\x10\x01", "\xa0\x06\x07"}, 0, 0, api.Fine},
	} {
		all(t, s, 0, c.l, c.d, c.number, c.why)
	}
}

// P17.2, P17.3: a message may be cut just where both parts are valid; merged, they are as they were.
func TestSplits(t *testing.T) {
	s := messages()
	for root := range s {
		for _, r := range rows(root, 200, true) {
			b := text(r)
			for _, d := range depths() {
				why := judge(r, d)
				var want []int
				for p := 0; why == api.Fine && p <= len(b); p++ {
					if valid.Is(s, root, []byte(b[:p]), d) && valid.Is(s, root, []byte(b[p:]), d) {
						want = append(want, p)
						two(t, s, root, b[:p], b[p:], d, over(until(r, p), behind(r, p)), api.Fine)
					}
				}
				if why == api.Fine && len(want) != len(r)+1 {
					t.Fatalf("%q may be cut at %v", b, want)
				}
				splits(t, s, root, b, d, want, why)
			}
		}
	}
}

// until are the pieces that end at a place, or ahead of it; behind are the others.
func until(l []piece, place int) []piece {
	end := 0
	for i, p := range l {
		if end += len(p.bytes); end > place {
			return l[:i]
		}
	}
	return l
}

func behind(l []piece, place int) []piece { return l[len(until(l, place)):] }

// P17.3: merged is as long as all together; cut at all places of Splits at once, and merged, it is as it was.
func TestTogether(t *testing.T) {
	s := messages()
	for root := range s {
		l := rows(root, 300, false)
		for i := range l {
			a, b := text(l[i]), text(l[(17*i+4)%len(l)])
			c, e := merge.Two(s, root, []byte(a), []byte(b), 64)
			if len(c) != len(a)+len(b) || e != api.Fine {
				t.Fatalf("P17.3: %q and %q, merged: %d bytes, %v", a, b, len(c), e)
			}
			places, e := merge.Splits(s, root, c, 64)
			if e != api.Fine || !slices.Contains(places, len(a)) {
				t.Fatalf("P17.3: Splits of %q and %q, merged: %v, %v", a, b, places, e)
			}
			var parts []string
			from := 0
			for _, p := range places {
				parts = append(parts, string(c[from:p]))
				from = p
			}
			all(t, s, root, parts, 64, 0, api.Fine)
		}
	}
}

// valueOf is a value of a kind, with its record's wire type.
func valueOf(k int) (int, string) {
	switch k {
	case api.Fixed32, api.Sfixed32, api.Float:
		return 5, "\x01\x02\x03\x04"
	case api.Fixed64, api.Sfixed64, api.Double:
		return 1, "\x01\x02\x03\x04\x05\x06\x07\x08"
	case api.String, api.Bytes, api.Sub:
		return 2, "\x02\x08\x01"
	}
	return 0, "\x01"
}

// P17.2: fields of each kind, Repeated or not: of those with one value alone, that isn't a message, the earlier records play no part.
func TestOverKinds(t *testing.T) {
	for k := api.Int32; k <= api.Sub; k++ {
		for _, repeated := range []bool{false, true} {
			s := api.Schema{{Name: "m", Fields: []api.Field{{Name: "g", Number: 1, Kind: api.Uint64}, {Name: "f", Number: 5, Kind: k, Repeated: repeated, Packed: repeated && k < api.String}}}}
			wire, value := valueOf(k)
			b := tag(5, wire) + value
			one := 1
			if repeated || k == api.Sub {
				one = 0
			}
			two(t, s, 0, b, b, 1, one, api.Fine)
			two(t, s, 0, b+b+b, "\x08\x01"+b, 1, 3*one, api.Fine)
			two(t, s, 0, b+"\x08\x01"+b, b+b+"\x08\x02\x08\x03", 1, 1+2*one, api.Fine)
			two(t, s, 0, b+b, "\x08\x01\x30\x01", 1, 0, api.Fine)
			two(t, s, 0, b+b, "", 1, 0, api.Fine)
			two(t, s, 0, "", b+b, 1, 0, api.Fine)
			if repeated && k < api.String {
				run := long(5, value)
				two(t, s, 0, b+run, run+b, 1, 0, api.Fine)
			}
		}
	}
}

// P17.2: written out: the records of the message itself count, whatever lies in them; unknown ones don't.
func TestOverWritten(t *testing.T) {
	s := messages()
	for _, c := range []struct {
		root int
		a, b string
		gone int
	}{
		{0, "\x08\x01", "\x08\x01", 1}, {0, "\x08\x01\x08\x02", "\x08\x03\x08\x04\x08\x05", 2}, {0, "\x08\x01\x08\x02", "", 0}, {0, "\x08\x01", "\x10\x01", 0}, {0, "", "\x08\x01", 0},
		{0, "\x88\x80\x00\x81\x00", "\x08\x01", 1}, {0, "\x22\x01a\x08\x01\x22\x00", "\x22\x01b\x08\x02", 3}, {0, "\x22\x00", "\x22\x00", 1},
		{0, "\x1a\x02\x18\x01", "\x1a\x02\x18\x02", 0}, {0, "\x1a\x02\x18\x01\x08\x01", "\x1a\x02\x18\x02\x08\x01", 1}, {0, "\x32\x02\x08\x01", "\x08\x01", 0}, {0, "\x08\x01", "\x32\x02\x08\x01", 0},
		{0, "\x12\x02\x01\x02\x10\x01", "\x12\x00\x10\x03", 0}, {0, "\x52\x00", "\x52\x00", 0}, {0, "\xa0\x06\x07", "\xa0\x06\x07", 0}, {0, "\xa0\x06\x07\x08\x01", "\xa0\x06\x07\x08\x01", 1}, {0, "\x68\x01", "\x70\x01", 0},
		{1, "\x18\x01", "\x18\x02", 1}, {1, "\x08\x01", "\x08\x01", 0}, {2, "\x08\x01", "\x08\x01", 0}, {0, "\x80\x01\x01", "\x80\x01\x00\x80\x01\x01", 1}, {0, "\x80\x01\x01", "\x08\x01", 0},
	} {
		two(t, s, c.root, c.a, c.b, 2, c.gone, api.Fine)
	}
}

// edges are a number's neighbours, and the ends.
func edges(size int) []int {
	return []int{math.MinInt, -2, -1, 0, size - 1, size, size + 1, 63, 64, 65, 255, 256, math.MaxInt}
}

// P17.1, P17.2, R2, R7: of all that is wrong at once what the chapter names first is told, and nothing else; of no messages what isn't valid of the others is.
func TestErrors(t *testing.T) {
	for i, s := range append([]api.Schema{messages()}, ills()...) {
		for _, root := range edges(len(messages())) {
			for _, d := range edges(api.MaxDepth) {
				why := api.Fine
				switch {
				case i > 0:
					why = api.Ill
				case root < 0 || root > 2 || d < 0 || d > 64:
					why = api.Arg
				}
				all(t, s, root, nil, d, 0, why)
				all(t, s, root, []string{"", "\xa0\x06\x07"}, d, 0, why)
				for _, b := range []string{"", "\xa0\x06\x07"} {
					places := []int{0, len(b)}[:1+len(b)/3]
					if why != api.Fine {
						places = nil
					}
					splits(t, s, root, b, d, places, why)
					two(t, s, root, b, "", d, 0, why)
					wrong, other := why, why
					if why == api.Fine {
						wrong, other = api.Tag, api.Short
					}
					splits(t, s, root, b+"\x00", d, nil, wrong)
					two(t, s, root, "\x00", b, d, 0, wrong)
					two(t, s, root, b, "\x00", d, 0, wrong)
					two(t, s, root, "\x08", "\x00", d, 0, other)
					two(t, s, root, b+"\x00", "\x08", d, 0, wrong)
					number := 0
					if why == api.Fine {
						number = 1
					}
					all(t, s, root, []string{b, "\x00", "\x08"}, d, number, wrong)
					all(t, s, root, []string{b, "\x08", "\x00"}, d, number, other)
				}
			}
		}
	}
}

// chain is a message in so many levels of the field 6 of the message 0.
func chain(inner string, levels int) string {
	for range levels {
		inner = long(6, inner)
	}
	return inner
}

// P17.1, P17.2: messages as deep as d, and deeper.
func TestDeep(t *testing.T) {
	s := messages()
	for levels := range 67 {
		b := chain("\x08\x01", levels)
		for _, d := range []int{levels - 1, levels, levels + 1, 64} {
			if d < 0 || d > 64 {
				continue
			}
			places, number, why := []int{0, len(b)}, 0, api.Fine
			if d < levels {
				places, number, why = nil, 1, api.Depth
			}
			gone := 0
			if levels == 0 {
				gone = 1
			}
			two(t, s, 0, b, b, d, gone, why)
			two(t, s, 0, "\x10\x01", b, d, 0, why)
			all(t, s, 0, []string{"\x08\x01", b, "", b}, d, number, why)
			splits(t, s, 0, b, d, places, why)
		}
	}
}

// greatest is a schema of as many messages and fields as there may be.
func greatest() api.Schema {
	var s api.Schema
	for i := range api.MaxMessages {
		m := api.Message{Name: "m" + strconv.Itoa(i)}
		for j := range api.MaxFields {
			m.Fields = append(m.Fields, api.Field{Name: "f" + strconv.Itoa(j), Number: j + 1, Kind: api.Uint32})
		}
		s = append(s, m)
	}
	return s
}

// R1: very many records, and messages; a schema of the greatest sort is gone through once of all messages.
func TestMany(t *testing.T) {
	const many = 1 << 16
	s := messages()
	for _, c := range []struct {
		b    string
		gone int
	}{{"\x08\x01", many}, {"\x10\x01", 0}, {"\x22\x01a", many}, {"\x32\x02\x08\x01", 0}, {"\xa0\x06\x07", 0}} {
		b := strings.Repeat(c.b, many)
		var places []int
		for i := range many + 1 {
			places = append(places, i*len(c.b))
		}
		two(t, s, 0, b, b, 1, c.gone, api.Fine)
		splits(t, s, 0, b, 1, places, api.Fine)
		all(t, s, 0, slices.Repeat([]string{c.b}, many), 1, 0, api.Fine)
		all(t, s, 0, append(slices.Repeat([]string{c.b}, many), "\x08", "\x01"), 1, many, api.Short)
	}
	for _, b := range []string{"", "\xc8\x00\x01"} {
		all(t, greatest(), 1, slices.Repeat([]string{b}, many), 1, 0, api.Fine)
		all(t, greatest(), 1, append(slices.Repeat([]string{b}, many), "\x0b"), 1, many, api.Tag)
	}
	var a []byte
	for n := range many {
		a = append(a, tag(n+1, 0)+"\x00"...)
	}
	if n, e := merge.Over(greatest(), 0, a, a, 0); n != api.MaxFields || e != api.Fine {
		t.Errorf("P17.2: Over of very many numbers: %d, %v", n, e)
	}
}

// R6: nothing is kept: what is done to a schema, or to bytes, between calls is seen.
func TestNothingIsKept(t *testing.T) {
	s := api.Schema{{Name: "m", Fields: []api.Field{{Name: "i", Number: 1, Kind: api.Uint32}}}}
	for range 2 {
		f := &s[0].Fields[0]
		two(t, s, 0, "\x08\x01", "\x08\x01", 0, 1, api.Fine)
		f.Repeated = true
		two(t, s, 0, "\x08\x01", "\x08\x01", 0, 0, api.Fine)
		splits(t, s, 0, "\x0a\x01\x01", 0, []int{0, 3}, api.Fine)
		f.Kind = api.Float
		two(t, s, 0, "", "\x08\x01", 0, 0, api.Wire)
		all(t, s, 0, []string{"", "\x08\x01"}, 0, 1, api.Wire)
		splits(t, s, 0, "\x0a\x01\x01", 0, nil, api.Short)
		f.Number = 2
		two(t, s, 0, "\x08\x01", "\x08\x01", 0, 0, api.Fine)
		f.Name = ""
		two(t, s, 0, "\x08\x01", "\x08\x01", 0, 0, api.Ill)
		s[0].Fields[0] = api.Field{Name: "i", Number: 1, Kind: api.Uint32}
	}
	a := []byte("\x08\x01")
	for w := range 3 {
		a[1] = byte(w)
		if c, e := merge.Two(s, 0, a, a, 0); string(c) != string(a)+string(a) || e != api.Fine {
			t.Errorf("R6: Two of %q: %q, %v", a, c, e)
		}
	}
}

// P17.1, R3, R4: no bytes are a message; what is told of one message alone is in new memory, too, and what lies behind a message's bytes in memory stays.
func TestMemory(t *testing.T) {
	s := messages()
	for _, a := range [][]byte{nil, {}} {
		for _, b := range [][]byte{nil, {}} {
			if c, e := merge.Two(s, 0, a, b, 0); len(c) != 0 || e != api.Fine {
				t.Errorf("P17.1: Two of no bytes: %q, %v", c, e)
			}
			if c, n, e := merge.All(s, 0, [][]byte{a, b}, 0); len(c) != 0 || n != 0 || e != api.Fine {
				t.Errorf("P17.1: All of no bytes: %q, %d, %v", c, n, e)
			}
		}
		if l, e := merge.Splits(s, 0, a, 0); !slices.Equal(l, []int{0}) || e != api.Fine {
			t.Errorf("P17.2: Splits of no bytes: %v, %v", l, e)
		}
	}
	whole := []byte("\x08\x01\x08\x02\x08\x03")
	c, _ := merge.Two(s, 0, whole[:2], []byte("\x08\x07"), 0)
	d, _, _ := merge.All(s, 0, [][]byte{whole[:2], {8, 7}}, 0)
	if string(whole) != "\x08\x01\x08\x02\x08\x03" || string(c) != "\x08\x01\x08\x07" || string(d) != string(c) {
		t.Errorf("R4: bytes behind a message were changed: %q", whole)
	}
	for _, ask := range []func() []byte{
		func() []byte { c, _ := merge.Two(s, 0, whole, nil, 0); return c },
		func() []byte { c, _ := merge.Two(s, 0, nil, whole, 0); return c },
		func() []byte { c, _, _ := merge.All(s, 0, [][]byte{whole}, 0); return c },
		func() []byte { c, _, _ := merge.All(s, 0, [][]byte{nil, whole, nil}, 0); return c },
	} {
		c := ask()
		c[1] = 9
		if string(c) != "\x08\x09\x08\x02\x08\x03" || whole[1] != 1 {
			t.Errorf("R4: what is told is what was handed in: %q, %q", c, whole)
		}
	}
}

// P17.1, P17.2: the chapter's example, and those of the whole.
func TestExamples(t *testing.T) {
	s := api.Schema{{Name: "m", Fields: []api.Field{{Name: "i", Number: 1, Kind: api.Uint32}}}}
	two(t, s, 0, string([]byte{8, 1}), string([]byte{8, 2}), 0, 1, api.Fine)
	s = api.Schema{{Name: "m", Fields: []api.Field{{Name: "a", Number: 1, Kind: api.Sub}, {Name: "b", Number: 2, Kind: api.Uint32}}}}
	c, e := merge.Two(s, 0, []byte{16, 1}, []byte{16, 2}, 0)
	if string(c) != "\x10\x01\x10\x02" || e != api.Fine {
		t.Errorf("example 3: %q, %v", c, e)
	}
	if x := mean(t, s, 0, string(c)); !tree.Same(x, tree.Msg{Values: []tree.Value{{Number: 2, Words: []uint64{2}}}}) {
		t.Errorf("example 3: merged means %v", x)
	}
	all(t, s, 0, []string{"\x10\x81\x00", "\x0a\x02\x10\x05", "\x18\x07"}, 1, 0, api.Fine)
	splits(t, s, 0, "\x10\x81\x00\x0a\x02\x10\x05\x18\x07", 1, []int{0, 3, 7, 9}, api.Fine)
}
