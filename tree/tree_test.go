package tree_test

import (
	"math"
	"slices"
	"strconv"
	"strings"
	"testing"

	"darning/api"
	"darning/tree"
)

// messages is a schema of three, whose fields stand in no order: 0 has fields of all sorts; 1 has the same numbers for others; 2 has none.
func messages() api.Schema {
	return api.Schema{
		{Name: "m", Fields: []api.Field{
			{Name: "n", Number: 3, Kind: api.Sub, Of: 1},
			{Name: "i", Number: 1, Kind: api.Int32, Repeated: true},
			{Name: "s", Number: 2, Kind: api.String},
			{Name: "y", Number: 4, Kind: api.Bytes, Repeated: true},
			{Name: "m", Number: 5, Kind: api.Sub, Repeated: true},
			{Name: "t", Number: 6, Kind: api.String, Repeated: true},
			{Name: "x", Number: 7, Kind: api.Fixed32, Repeated: true, Packed: true},
			{Name: "o", Number: 16, Kind: api.Bool},
			{Name: "e", Number: 9, Kind: api.Sub, Repeated: true, Of: 2},
			{Name: "z", Number: 8, Kind: api.Sint64},
			{Name: "b", Number: 10, Kind: api.Bytes},
		}},
		{Name: "n", Fields: []api.Field{
			{Name: "n", Number: 5, Kind: api.Sub, Of: 1},
			{Name: "m", Number: 1, Kind: api.Sub},
			{Name: "d", Number: 2, Kind: api.Double, Repeated: true},
			{Name: "s", Number: 3, Kind: api.String},
			{Name: "q", Number: 4, Kind: api.Sint64, Repeated: true, Packed: true},
		}},
		{Name: "e"},
	}
}

// varint is a word as a minimal varint, and so many bytes more.
func varint(w uint64, more int) string {
	b := ""
	for ; w >= 128; w /= 128 {
		b += string([]byte{byte(128 + w%128)})
	}
	if more == 0 {
		return b + string([]byte{byte(w)})
	}
	return b + string([]byte{byte(128 + w)}) + strings.Repeat("\x80", more-1) + "\x00"
}

// tag is a record's, and so many bytes more than it needs.
func tag(number, wire, more int) string { return varint(8*uint64(number)+uint64(wire), more) }

// long is a record of wire type 2.
func long(number int, value string) string {
	return tag(number, 2, 0) + varint(uint64(len(value)), 0) + value
}

// What a piece is to its message.
const (
	stranger = iota
	number
	words
	text
	sub
)

// piece is a record, and what it means by itself.
type piece struct {
	what  int
	field int      // its number, if it isn't a stranger
	bytes string   // all of it; of a sub what is ahead of its value
	words []uint64 // of a number one, of words those of its run
	text  string
	in    []piece
}

// all is a piece's bytes.
func (p piece) all() string { return p.bytes + bytesOf(p.in) }

// bytesOf pieces, one behind the other.
func bytesOf(l []piece) string {
	b := ""
	for _, p := range l {
		b += p.all()
	}
	return b
}

// levels are how many lie in each other in these pieces.
func levels(l []piece) int {
	most := 0
	for _, p := range l {
		if p.what == sub {
			most = max(most, 1+levels(p.in))
		}
	}
	return most
}

// means tells by the chapter's words what a message of these pieces means.
func means(s api.Schema, message int, l []piece) tree.Msg {
	var x tree.Msg
	for n := range 20 {
		for _, f := range s[message].Fields {
			if f.Number != n {
				continue
			}
			if v := fieldMeans(s, f, l); len(v.Words)+len(v.Texts)+len(v.Subs) > 0 {
				x.Values = append(x.Values, v)
			}
		}
	}
	for _, p := range l {
		if p.what == stranger {
			x.Unknown = append(x.Unknown, p.bytes)
		}
	}
	return x
}

// fieldMeans tells what a field's pieces mean.
func fieldMeans(s api.Schema, f api.Field, l []piece) tree.Value {
	v := tree.Value{Number: f.Number}
	var in []piece
	for _, p := range l {
		if p.what == stranger || p.field != f.Number {
			continue
		}
		if !f.Repeated {
			v.Words, v.Texts, v.Subs = nil, nil, nil
		}
		switch p.what {
		case number, words:
			v.Words = append(v.Words, p.words...)
		case text:
			v.Texts = append(v.Texts, p.text)
		case sub:
			if f.Repeated {
				in = nil
			}
			in = append(in, p.in...)
			v.Subs = append(v.Subs, means(s, f.Of, in))
		}
	}
	return v
}

// show a meaning as a text that no other one has; slices without things are all alike.
func show(x tree.Msg) string {
	b := "("
	for _, v := range x.Values {
		b += showValue(v) + " "
	}
	for _, u := range x.Unknown {
		b += "?" + strconv.Quote(u)
	}
	return b + ")"
}

// showValue is a value as such a text.
func showValue(v tree.Value) string {
	b := strconv.Itoa(v.Number) + ":"
	for _, w := range v.Words {
		b += "w" + strconv.FormatUint(w, 10)
	}
	for _, t := range v.Texts {
		b += "t" + strconv.Quote(t)
	}
	for _, x := range v.Subs {
		b += "s" + show(x)
	}
	return b
}

// of is a piece with a number's one word.
func of(field int, bytes string, w uint64) piece {
	return piece{what: number, field: field, bytes: bytes, words: []uint64{w}}
}

// runOf is a piece with a run.
func runOf(field int, bytes string, l ...uint64) piece {
	return piece{what: words, field: field, bytes: bytes, words: l}
}

// textOf is a piece with a text.
func textOf(field int, bytes, t string) piece {
	return piece{what: text, field: field, bytes: bytes, text: t}
}

// whole is a message's record with these pieces in it; its tag and length may have more bytes than they need.
func whole(field, more int, in []piece) piece {
	head := tag(field, 2, more) + varint(uint64(len(bytesOf(in))), more)
	return piece{what: sub, field: field, bytes: head, in: in}
}

// leaves are records of a message, but for those of the kind Sub.
func leaves(message int) []piece {
	l := []piece{{bytes: "\xa0\x01\x07"}, {bytes: "\x5a\x03\x08\x01\x80"}, {bytes: "\x5d\xff\xff\xff\xff"}, {bytes: "\xd9\x80\x00\xff\xff\xff\xff\xff\xff\xff\xff"}, {bytes: "\xa2\x01\x81\x00\xff"}} // unknown in all
	switch message {
	case 0:
		return append(l, of(1, "\x08\x01", 1), of(1, "\x88\x00\x81\x00", 1), of(1, "\x08\xfe\xff\xff\xff\x0f", math.MaxUint64-1), runOf(1, "\x0a\x03\x01\xac\x02", 1, 300), runOf(1, "\x0a\x00"), runOf(1, "\x0a\x06\x80\x80\x80\x80\x18\x02", 0xffffffff80000000, 2),
			textOf(2, "\x12\x03a\xc3\xa9", "a\u00e9"), textOf(2, "\x12\x00", ""), textOf(4, "\x22\x01\xff", "\xff"), textOf(4, "\x22\x00", ""), textOf(6, "\x32\x01b", "b"), textOf(6, "\x32\x80\x00", ""),
			of(7, "\x3d\x80\x81\x82\x83", 0x83828180), runOf(7, "\x3a\x08\x00\x01\x02\x03\xff\xff\xff\xff", 0x03020100, 0xffffffff), runOf(7, "\x3a\x00"), of(16, "\x80\x01\x02", 1), of(16, "\x80\x01\x00", 0), of(8, "\x40\x05", 5), of(8, "\x40\x80\x00", 0), textOf(10, "\x52\x02\x00\x80", "\x00\x80"))
	case 1:
		return append(l, of(2, "\x11\x00\x01\x02\x03\x04\x05\x06\x87", 0x8706050403020100), runOf(2, "\x12\x08\x07\x06\x05\x04\x03\x02\x01\x00", 0x01020304050607), runOf(2, "\x12\x00"), textOf(3, "\x1a\x01a", "a"), textOf(3, "\x1a\x02\xc3\xa9", "\u00e9"), of(4, "\x20\x01", 1), runOf(4, "\x22\x02\x80\x00", 0),
			piece{bytes: "\x30\x01"}, piece{bytes: "\x3a\x01\xff"})
	}
	return append(l, piece{bytes: "\x08\x01"}, piece{bytes: "\x12\x01\xff"}, piece{bytes: "\x1a\x02\x0a\x00"})
}

// subs are records of the fields of the kind Sub of a message, with some rows of that many levels in them.
func subs(message, level int) []piece {
	if level < 0 {
		return nil
	}
	var l []piece
	add := func(field, of int) {
		for i, in := range some(rows(of, level-1), 12, field+level) {
			l = append(l, whole(field, i%3, in))
		}
	}
	switch message {
	case 0:
		add(3, 1)
		add(5, 0)
		add(9, 2)
	case 1:
		add(1, 0)
		add(5, 1)
	}
	return l
}

// rows are no pieces, one alone, all of two, and some of three and of six.
func rows(message, level int) [][]piece {
	all := append(leaves(message), subs(message, level)...)
	l := [][]piece{nil}
	for i, p := range all {
		at := func(n int) piece { return all[n%len(all)] }
		l = append(l, []piece{p}, []piece{p, at(7*i + 3), at(5*i + 1)}, []piece{p, at(3 * i), p, at(11*i + 2), at(3 * i), at(i + 1)})
		for _, q := range all {
			l = append(l, []piece{p, q})
		}
	}
	return l
}

// some are as many rows as wanted, from all over a list; of another turn others.
func some(l [][]piece, count, turn int) [][]piece {
	var few [][]piece
	for i := range count {
		few = append(few, l[(i*len(l)/count+31*i+turn)%len(l)])
	}
	return few
}

// each hands on rows of the messages, of up to three levels.
func each(try func(root int, l []piece)) {
	for root := range 3 {
		for level := range 4 {
			for _, l := range rows(root, level-1) {
				try(root, l)
			}
		}
	}
}

// copyOf is a schema in new memory.
func copyOf(s api.Schema) api.Schema {
	var c api.Schema
	for _, m := range s {
		c = append(c, api.Message{Name: m.Name, Fields: slices.Clone(m.Fields)})
	}
	return c
}

// sameSchema: are two the same?
func sameSchema(a, b api.Schema) bool {
	return slices.EqualFunc(a, b, func(m, n api.Message) bool { return m.Name == n.Name && slices.Equal(m.Fields, n.Fields) })
}

// meaning asks Of of bytes within d, holds it against what it must tell, and tells it.
func meaning(t *testing.T, s api.Schema, root int, b string, d int, want tree.Msg, why api.Code) tree.Msg {
	t.Helper()
	c := []byte(b)
	x, e := tree.Of(s, root, c, d)
	if show(x) != show(want) || e != why {
		t.Fatalf("P14.1: Of %q, %d within %d: %s, %v, not %s, %v", b, root, d, show(x), e, show(want), why)
	}
	if string(c) != b {
		t.Fatalf("R4: %q was changed to %q", b, c)
	}
	for i := range c {
		c[i] = 0xff
	}
	if show(x) != show(want) {
		t.Fatalf("R4: Of %q lies in the bytes that it was handed", b)
	}
	return x
}

// zero: are all of a value's fields?
func zero(v tree.Value) bool {
	return v.Number == 0 && len(v.Words) == 0 && len(v.Texts) == 0 && len(v.Subs) == 0
}

// P14.1, P14.3: what valid bytes mean, for all rows of pieces; it is right, and as deep as they are, at most; within less there is no meaning.
func TestRows(t *testing.T) {
	s, count := messages(), 0
	each(func(root int, l []piece) {
		b, deep, want := bytesOf(l), levels(l), means(s, root, l)
		x := meaning(t, s, root, b, deep, want, api.Fine)
		meaning(t, s, root, b, 64, want, api.Fine)
		if deep > 0 {
			meaning(t, s, root, b, deep-1, tree.Msg{}, api.Depth)
		}
		if !tree.Right(s, root, x) {
			t.Fatalf("P14.3: %s isn't right", show(x))
		}
		if n := tree.Depth(x); n > deep {
			t.Fatalf("P14.3: %s, of %q, is %d deep, not %d", show(x), b, n, deep)
		}
		count++
	})
	if count < 10000 {
		t.Errorf("only %d rows", count)
	}
	if !sameSchema(s, messages()) {
		t.Errorf("R4: the schema was changed to %v", s)
	}
}

// P14.2: Get, Depth, Copy and Same of what rows of pieces mean.
func TestRowsMean(t *testing.T) {
	s := messages()
	each(func(root int, l []piece) {
		x := means(s, root, l)
		then := show(x)
		if n := tree.Depth(x); n != levels(l) {
			t.Fatalf("P14.2: Depth of %s: %d, not %d", then, n, levels(l))
		}
		c := tree.Copy(x)
		if show(c) != then || !tree.Same(x, c) || !tree.Same(c, x) {
			t.Fatalf("P14.2: Copy of %s: %s", then, show(c))
		}
		for n := range 20 {
			var want tree.Value
			for _, v := range x.Values {
				if v.Number == n {
					want = v
				}
			}
			if v, ok := tree.Get(x, n); showValue(v) != showValue(want) || ok != (want.Number > 0) {
				t.Fatalf("P14.2: Get of %s, %d: %s, %v", then, n, showValue(v), ok)
			}
		}
		if show(x) != then {
			t.Fatalf("R4: %s was changed to %s", then, show(x))
		}
	})
}

// P14.2: two meanings are the same just if they show the same: all pairs of those that some rows mean.
func TestPairs(t *testing.T) {
	s := messages()
	for root := range 3 {
		var l []tree.Msg
		var shown []string
		for _, r := range append(some(rows(root, 2), 400, root), rows(root, -1)[:40]...) {
			x := means(s, root, r)
			l, shown = append(l, x), append(shown, show(x))
		}
		for i, a := range l {
			for j, b := range l {
				if tree.Same(a, b) != (shown[i] == shown[j]) {
					t.Fatalf("P14.2: Same of %s, %s: %v", shown[i], shown[j], shown[i] != shown[j])
				}
			}
		}
	}
}

// wireOf is a kind's wire type, as the chapter of kinds lists them.
func wireOf(k int) int {
	switch k {
	case 9, 10, 11:
		return 5
	case 12, 13, 14:
		return 1
	case 15, 16, 17:
		return 2
	}
	return 0
}

// item is a value's bytes, and their word.
type item struct {
	bytes string
	word  uint64
}

// items are some of a number's kind, their words written out.
func items(k int) []item {
	ten := strings.Repeat("\xff", 9) + "\x01"
	switch k {
	case api.Int32, api.Enum:
		return []item{{"\x00", 0}, {"\xac\x82\x00", 300}, {ten, math.MaxUint64}, {"\xff\xff\xff\xff\x0f", math.MaxUint64}, {"\xff\xff\xff\xff\x07", math.MaxInt32}, {"\x80\x80\x80\x80\x08", 0xffffffff80000000}, {"\x85\x80\x80\x80\x10", 5}}
	case api.Uint32, api.Sint32:
		return []item{{"\x00", 0}, {"\xac\x82\x00", 300}, {ten, math.MaxUint32}, {"\xff\xff\xff\xff\x0f", math.MaxUint32}, {"\x80\x80\x80\x80\x08", 1 << 31}, {"\x85\x80\x80\x80\x10", 5}}
	case api.Int64, api.Uint64, api.Sint64:
		return []item{{"\x00", 0}, {"\xac\x82\x00", 300}, {ten, math.MaxUint64}, {"\xff\xff\xff\xff\x0f", math.MaxUint32}, {"\x85\x80\x80\x80\x10", 1<<32 + 5}}
	case api.Bool:
		return []item{{"\x00", 0}, {"\x01", 1}, {"\x02", 1}, {"\x80\x00", 0}, {ten, 1}, {"\x80\x80\x80\x80\x10", 1}}
	case api.Fixed32, api.Sfixed32, api.Float:
		return []item{{"\x00\x00\x00\x00", 0}, {"\x01\x02\x03\x84", 0x84030201}, {"\xff\xff\xff\xff", math.MaxUint32}, {"\x00\x00\x00\x80", 1 << 31}}
	}
	return []item{{"\x00\x00\x00\x00\x00\x00\x00\x00", 0}, {"\x01\x02\x03\x04\x05\x06\x07\x88", 0x8807060504030201}, {"\xff\xff\xff\xff\xff\xff\xff\xff", math.MaxUint64}, {"\x00\x00\x00\x00\x00\x00\x00\x80", 1 << 63}}
}

// one is a schema of one message with this field, and one with none.
func one(f api.Field) api.Schema {
	f.Name = "f"
	return api.Schema{{Name: "m", Fields: []api.Field{f}}, {Name: "n"}}
}

// P14.1: of a number's kind, not Repeated, the last record's word; Repeated all words of all records and runs, whatever Packed says; none, if there are none.
func TestNumbers(t *testing.T) {
	for k := api.Int32; k <= api.Double; k++ {
		single, head := one(api.Field{Number: 5, Kind: k}), tag(5, wireOf(k), 0)
		var b, run string
		var all []uint64
		for _, i := range items(k) {
			b, run, all = b+head+i.bytes, run+i.bytes, append(all, i.word)
			meaning(t, single, 0, b, 0, tree.Msg{Values: []tree.Value{{Number: 5, Words: []uint64{i.word}}}}, api.Fine)
			for _, packed := range []bool{false, true} {
				s := one(api.Field{Number: 5, Kind: k, Repeated: true, Packed: packed})
				want := func(l ...[]uint64) tree.Msg {
					return tree.Msg{Values: []tree.Value{{Number: 5, Words: slices.Concat(l...)}}}
				}
				empty := long(5, "")
				meaning(t, s, 0, empty, 0, tree.Msg{}, api.Fine)
				meaning(t, s, 0, empty+"\x08\x01"+empty, 0, tree.Msg{Unknown: []string{"\x08\x01"}}, api.Fine)
				meaning(t, s, 0, b, 0, want(all), api.Fine)
				meaning(t, s, 0, long(5, run), 0, want(all), api.Fine)
				meaning(t, s, 0, long(5, run)+empty+b+long(5, run), 0, want(all, all, all), api.Fine)
				meaning(t, s, 0, head+i.bytes+long(5, run)+head+i.bytes, 0, want([]uint64{i.word}, all, []uint64{i.word}), api.Fine)
			}
		}
	}
}

// P14.1: of string and bytes, not Repeated, the last text, even if it is empty; Repeated all of them.
func TestTexts(t *testing.T) {
	texts := []string{"a", "", "\x00", "a\u00e9\U0001f600", strings.Repeat("x", 300), "\xc3\xa9"}
	for _, k := range []int{api.String, api.Bytes} {
		b, l := "", []string(nil)
		if k == api.Bytes {
			texts = append(texts, "\xff", "\xc3")
		}
		for _, text := range texts {
			b, l = b+long(5, text), append(l, text)
			meaning(t, one(api.Field{Number: 5, Kind: k}), 0, b, 0, tree.Msg{Values: []tree.Value{{Number: 5, Texts: []string{text}}}}, api.Fine)
			meaning(t, one(api.Field{Number: 5, Kind: k, Repeated: true}), 0, b, 0, tree.Msg{Values: []tree.Value{{Number: 5, Texts: l}}}, api.Fine)
		}
	}
}

// P14.1: of the kind Sub, not Repeated, what all values mean, put one behind the other, on each level; Repeated each by itself.
func TestSubs(t *testing.T) {
	s := api.Schema{{Name: "m", Fields: []api.Field{{Name: "r", Number: 4, Kind: api.Sub, Repeated: true}, {Name: "n", Number: 3, Kind: api.Sub}, {Name: "i", Number: 1, Kind: api.Uint32}}}}
	i := func(w uint64) tree.Value { return tree.Value{Number: 1, Words: []uint64{w}} }
	in := func(number int, l ...tree.Msg) tree.Value { return tree.Value{Number: number, Subs: l} }
	msg := func(l ...tree.Value) tree.Msg { return tree.Msg{Values: l} }
	both := msg(i(2))
	both.Unknown = []string{"\x50\x01", "\x50\x02"}
	a, b := "\x50\x01\x08\x01", "\x08\x02\x50\x02"
	meaning(t, s, 0, long(3, a)+long(3, b), 1, msg(in(3, both)), api.Fine)
	meaning(t, s, 0, long(3, long(3, a))+"\x08\x07"+long(3, long(3, b)), 2, msg(i(7), in(3, msg(in(3, both)))), api.Fine)
	meaning(t, s, 0, long(3, "")+long(3, a)+long(3, "")+long(3, b), 1, msg(in(3, both)), api.Fine)
	meaning(t, s, 0, long(3, ""), 1, msg(in(3, msg())), api.Fine)
	meaning(t, s, 0, long(3, "")+long(3, ""), 1, msg(in(3, msg())), api.Fine)
	one, two := msg(i(1)), msg(i(2))
	one.Unknown, two.Unknown = []string{"\x50\x01"}, []string{"\x50\x02"}
	meaning(t, s, 0, long(4, a)+long(4, "")+long(4, b), 1, msg(in(4, one, msg(), two)), api.Fine)
	meaning(t, s, 0, long(3, long(4, a)+"\x08\x05")+long(4, long(3, b))+long(3, long(4, b)), 2, msg(in(3, msg(i(5), in(4, one, two))), in(4, msg(in(3, two)))), api.Fine)
}

// P14.1: what isn't valid means nothing: the errors are valid's, in its order.
func TestErrors(t *testing.T) {
	s := messages()
	for _, c := range []struct {
		b   string
		d   int
		why api.Code
	}{
		{"\x08", 1, api.Short}, {"\x08\x80", 1, api.Short}, {"\x12\x02a", 1, api.Short}, {"\x0a\x01\x80", 1, api.Short}, {"\x3a\x03\x01\x02\x03", 1, api.Short},
		{"\x08\xff\xff\xff\xff\xff\xff\xff\xff\xff\x02", 1, api.Over}, {"\x00\x01", 1, api.Tag}, {"\x0b", 1, api.Tag}, {"\x09\x00\x00\x00\x00\x00\x00\x00\x00", 1, api.Wire}, {"\x10\x01", 1, api.Wire}, {"\x42\x01\x01", 1, api.Wire},
		{"\x12\x01\xff", 1, api.Utf}, {"\x32\x02a\xc3", 1, api.Utf}, {"\x12\x01\xff\x12\x01a", 1, api.Utf}, {"\x1a\x00", 0, api.Depth}, {"\x2a\x02\x2a\x00", 1, api.Depth}, {"\x4a\x00", 0, api.Depth},
		{"\x1a\x03\x1a\x01\xff", 1, api.Utf}, {"\x1a\x02\x08\x01", 1, api.Wire}, {"\x1a\x02\x0a\x00", 1, api.Depth}, {"\x2a\x03\x12\x01\xff\x08", 1, api.Utf}, {"\x08\x01\x2a\x00\x12\x01\xff\x2a\x02\x2a\x00", 1, api.Utf},
	} {
		meaning(t, s, 0, c.b, c.d, tree.Msg{}, c.why)
		meaning(t, s, 0, "\x08\x01\x12\x01a\xa0\x01\x07"+c.b, c.d, tree.Msg{}, c.why)
		meaning(t, s, 0, long(5, c.b), c.d+1, tree.Msg{}, c.why)
		meaning(t, s, 0, long(5, "\x08\x01")+long(5, c.b)+long(5, "\x08\x02"), c.d+1, tree.Msg{}, c.why)
	}
}

// edges are a number's neighbours, and the ends.
func edges(size int) []int {
	return []int{math.MinInt, -2, -1, 0, 1, size - 1, size, size + 1, 64, 65, 255, 256, math.MaxInt}
}

// P14.1, R7: a schema that isn't right comes ahead of a root, and a depth, that can't be, and these ahead of the bytes.
func TestArgs(t *testing.T) {
	s := messages()
	for _, root := range edges(len(s)) {
		for _, d := range edges(64) {
			why := api.Arg
			if root >= 0 && root < len(s) && d >= 0 && d <= 64 {
				why = api.Fine
			}
			meaning(t, s, root, "", d, tree.Msg{}, why)
			if why != api.Fine {
				meaning(t, s, root, "\xa0\x01\x07", d, tree.Msg{}, why)
				meaning(t, s, root, "\x12\x01\xff", d, tree.Msg{}, why)
			}
			for _, ill := range ills() {
				meaning(t, ill, root, "\xa0\x01\x07", d, tree.Msg{}, api.Ill)
				meaning(t, ill, root, "\x12\x01\xff", d, tree.Msg{}, api.Ill)
			}
		}
		fine := root >= 0 && root < len(s)
		if tree.Right(s, root, tree.Msg{}) != fine || tree.Right(s, root, tree.Msg{Unknown: []string{"\xa0\x01\x07"}}) != fine {
			t.Errorf("P14.1: Right of no values, %d: %v", root, !fine)
		}
		for _, ill := range ills() {
			if tree.Right(ill, root, tree.Msg{}) {
				t.Errorf("P14.1: Right of %v, %d", ill, root)
			}
		}
	}
}

// ills are schemas that aren't right.
func ills() []api.Schema {
	double, of, name := messages(), messages(), messages()
	double[1].Fields[2].Number = 5
	of[0].Fields[0].Of = 3
	name[2].Name = "1"
	return []api.Schema{nil, {}, make(api.Schema, 1), make(api.Schema, 101), double, of, name}
}

// full is a right meaning of the message 0 with values of all its fields, and unknown records on two levels.
func full() tree.Msg {
	return tree.Msg{
		Values: []tree.Value{
			{Number: 1, Words: []uint64{5, math.MaxUint64, 0x7fffffff, 0xffffffff80000000}},
			{Number: 2, Texts: []string{"a"}},
			{Number: 3, Subs: []tree.Msg{{Values: []tree.Value{{Number: 1, Subs: []tree.Msg{{}}}, {Number: 4, Words: []uint64{math.MaxUint64}}}, Unknown: []string{"\x30\x01"}}}},
			{Number: 4, Texts: []string{"\xff", ""}},
			{Number: 5, Subs: []tree.Msg{{}, {Values: []tree.Value{{Number: 16, Words: []uint64{0}}}}, {}}},
			{Number: 6, Texts: []string{"", "\u00e9"}},
			{Number: 7, Words: []uint64{0, math.MaxUint32}},
			{Number: 8, Words: []uint64{math.MaxUint64}},
			{Number: 9, Subs: []tree.Msg{{Unknown: []string{"\x08\x01", "\x0a\x00"}}}},
			{Number: 10, Texts: []string{"\xff"}},
			{Number: 16, Words: []uint64{1}},
		},
		Unknown: []string{"\xa0\x01\x07", "\xa0\x01\x07", "\xa2\x01\x00"},
	}
}

// change is done to a meaning.
type change func(x *tree.Msg)

// valueOf is the value of a number in a meaning.
func valueOf(x *tree.Msg, number int) *tree.Value {
	for i := range x.Values {
		if x.Values[i].Number == number {
			return &x.Values[i]
		}
	}
	return &tree.Value{}
}

// asWords, asTexts, asSubs and asUnknown put other things in their place; asNumber another Number.
func asWords(number int, l ...uint64) change {
	return func(x *tree.Msg) { valueOf(x, number).Words = l }
}
func asTexts(number int, l ...string) change {
	return func(x *tree.Msg) { valueOf(x, number).Texts = l }
}
func asSubs(number int, l ...tree.Msg) change {
	return func(x *tree.Msg) { valueOf(x, number).Subs = l }
}
func asUnknown(l ...string) change { return func(x *tree.Msg) { x.Unknown = l } }
func asNumber(number, other int) change {
	return func(x *tree.Msg) { valueOf(x, number).Number = other }
}

// P14.1: each thing by itself that makes a meaning wrong, or leaves it right.
func TestRight(t *testing.T) {
	s := messages()
	word := tree.Msg{Values: []tree.Value{{Number: 1, Words: []uint64{1}}}}
	for i, wrong := range []change{
		asWords(1), asWords(2, 1), asWords(3, 1), asWords(4, 1), asWords(10, 0), asWords(16, 0, 1), asWords(16, 1, 1), asWords(8, 0, 0), asWords(16), asWords(1, 1<<31), asWords(1, 1<<32), asWords(1, 1, 0xffffffff7fffffff), asWords(1, 0xffffffff, 1), asWords(7, 1<<32), asWords(7, 0, math.MaxUint64), asWords(16, 2), asWords(16, math.MaxUint64),
		asTexts(2), asTexts(2, "a", "b"), asTexts(10, "", ""), asTexts(10), asTexts(4), asTexts(6), asTexts(2, "\xff"), asTexts(6, "a", "\xc3"), asTexts(6, "\xc3", "a"), asTexts(1, ""), asTexts(3, ""), asTexts(5, "", ""), asTexts(16, "a"),
		asSubs(3), asSubs(3, tree.Msg{}, tree.Msg{}), asSubs(5), asSubs(9), asSubs(1, tree.Msg{}), asSubs(2, tree.Msg{}), asSubs(4, tree.Msg{}, tree.Msg{}), asSubs(16, tree.Msg{}), asSubs(9, word), asSubs(9, tree.Msg{}, word), asSubs(3, word), asSubs(5, word, tree.Msg{Unknown: []string{"\x08\x01"}}),
		asNumber(1, 0), asNumber(1, -1), asNumber(1, math.MinInt), asNumber(1, 2), asNumber(16, 1), asNumber(16, 17), asNumber(16, 10), asNumber(16, 11), asNumber(16, math.MaxInt), asNumber(10, 11), asNumber(4, 6), asNumber(2, 4),
		asUnknown(""), asUnknown("\xa0\x01\x07", ""), asUnknown("\xa0\x01"), asUnknown("\xa0"), asUnknown("\xa0\x01\x07\xa0\x01\x07"), asUnknown("\xa0\x01\x07\x00"), asUnknown("\xa2\x01\x02a"), asUnknown("\xa3\x01"), asUnknown("\x00\x01"), asUnknown("\x08\x01"), asUnknown("\x0a\x00"), asUnknown("\x0d\x00\x00\x00\x00"), asUnknown("\x80\x01\x00"), asUnknown("\x88\x00\x01"), asUnknown("\xa0\x01\x07", "\x52\x01a"), asUnknown("\x52\x01a", "\xa0\x01\x07"), asUnknown("\xa0\x01\xff\xff\xff\xff\xff\xff\xff\xff\xff\x02"),
		func(x *tree.Msg) { x.Values[3], x.Values[4] = x.Values[4], x.Values[3] },
		func(x *tree.Msg) { slices.Reverse(x.Values) },
		func(x *tree.Msg) { x.Values = append(x.Values, x.Values[10]) },
		func(x *tree.Msg) { x.Values = append(x.Values[:1:1], x.Values...) },
		func(x *tree.Msg) { x.Values = append(x.Values, tree.Value{Number: 17}) },
		func(x *tree.Msg) { x.Values = append([]tree.Value{{}}, x.Values...) },
		func(x *tree.Msg) { valueOf(x, 3).Subs[0].Unknown[0] = "\x08\x01" },
		func(x *tree.Msg) { valueOf(x, 3).Subs[0].Values[1].Number = 9 },
		func(x *tree.Msg) { valueOf(x, 3).Subs[0].Values[0].Subs[0].Unknown = []string{"\x08\x01"} },
		func(x *tree.Msg) { slices.Reverse(valueOf(x, 3).Subs[0].Values) },
		func(x *tree.Msg) { valueOf(x, 5).Subs[1].Values[0].Words[0] = 2 },
		func(x *tree.Msg) { valueOf(x, 5).Subs[2].Unknown = []string{""} },
	} {
		x := full()
		wrong(&x)
		then := show(x)
		if tree.Right(s, 0, x) {
			t.Errorf("P14.1: change %d: Right of %s", i, then)
		}
		if tree.Right(s, 0, tree.Msg{Values: []tree.Value{{Number: 5, Subs: []tree.Msg{{}, x}}}}) {
			t.Errorf("P14.1: change %d: Right of it in a message", i)
		}
		if tree.Same(x, full()) || tree.Same(full(), x) {
			t.Errorf("P14.2: change %d: Same of %s", i, then)
		}
		if show(x) != then {
			t.Errorf("R4: change %d: %s was changed to %s", i, then, show(x))
		}
	}
	for i, right := range []change{
		func(x *tree.Msg) {}, func(x *tree.Msg) { x.Values = nil }, func(x *tree.Msg) { x.Values = []tree.Value{} }, func(x *tree.Msg) { x.Unknown = nil }, func(x *tree.Msg) { x.Values = x.Values[4:7] },
		asWords(1, 0), asWords(1, 1, 1, 0), asWords(1, 0xffffffff80000000), asWords(16, 0), asTexts(2, ""), asTexts(10, ""), asTexts(4, ""), asTexts(6, "a", "a"), asWords(2), asTexts(1), asSubs(1), asSubs(3, tree.Msg{}), asSubs(5, full(), full()), asSubs(9, tree.Msg{}, tree.Msg{}),
		asUnknown("\xa0\x01\x80\x00"), asUnknown("\xa0\x81\x00\x07"), asUnknown("\xa2\x01\x80\x00"), asUnknown("\x5d\x00\x00\x00\x00"), asUnknown("\xf8\xff\xff\xff\x0f\x00"), asUnknown(varint(8*19000, 0) + "\x00"), asUnknown("\xa2\x01\x02\x08\x01"),
	} {
		x := full()
		right(&x)
		if !tree.Right(s, 0, x) || !tree.Right(s, 0, tree.Msg{Values: []tree.Value{{Number: 5, Subs: []tree.Msg{x}}}}) {
			t.Errorf("P14.1: change %d: %s isn't right", i, show(x))
		}
	}
	if tree.Right(s, 1, full()) || tree.Right(s, 2, full()) || tree.Right(s, 1, word) || !tree.Right(s, 1, valueOf(&tree.Msg{Values: full().Values}, 3).Subs[0]) {
		t.Error("P14.1: Right for another message")
	}
}

// isCanonical: is a word a canonical one of this kind, as its chapter tells?
func isCanonical(k int, w uint64) bool {
	switch k {
	case 1, 8:
		return w < 1<<31 || w >= 1<<64-1<<31
	case 3, 5, 9, 10, 11:
		return w < 1<<32
	case 7:
		return w < 2
	}
	return k >= 1 && k <= 14
}

// fits tells by the chapter's words whether a value is one of a field; which Subs are meanings of its message is known.
func fits(k int, repeated bool, v tree.Value, right bool) bool {
	count := []int{len(v.Words), len(v.Texts), len(v.Subs)}
	sort := 0
	switch k {
	case 15, 16:
		sort = 1
	case 17:
		sort = 2
	}
	for i, n := range count {
		if i != sort && n > 0 || i == sort && (n == 0 || n > 1 && !repeated) {
			return false
		}
	}
	for _, w := range v.Words {
		if !isCanonical(k, w) {
			return false
		}
	}
	return !(k == 15 && slices.ContainsFunc(v.Texts, func(t string) bool { return strings.ToValidUTF8(t, "") != t })) && (right || k != 17)
}

// P14.1: values of all sorts, of fields of all kinds, and of what is none; but for its Kind, Repeated and Of, a field's parts play no part, nor does the value's Number.
func TestFits(t *testing.T) {
	s, n := messages(), []tree.Msg{{Values: []tree.Value{{Number: 3, Texts: []string{"a"}}}}}
	subs := [][]tree.Msg{nil, {}, n, {{}}, {{}, n[0]}, {n[0], full()}, {full()}, {{Unknown: []string{"\x08\x01"}}}}
	wrong := map[int]bool{5: true, 6: true, 7: true}
	ends := []uint64{0, 1, 2, 1<<31 - 1, 1 << 31, 1<<32 - 1, 1 << 32, 1<<63 - 1, 1 << 63, 1<<64 - 1<<32, 1<<64 - 1<<31 - 1, 1<<64 - 1<<31, math.MaxUint64}
	lists := [][]uint64{nil, {}}
	for _, w := range ends {
		lists = append(lists, []uint64{w}, []uint64{0, w}, []uint64{w, 1})
	}
	count := map[bool]int{}
	kinds := append(edges(18), 256+api.Uint32)
	for k := 2; k < 17; k++ {
		kinds = append(kinds, k)
	}
	try := func(f api.Field, v tree.Value, right bool) {
		want := fits(f.Kind, f.Repeated, v, right)
		count[want]++
		if tree.Fits(f, s, v) != want {
			t.Fatalf("P14.1: Fits of %v, %s: %v", f, showValue(v), !want)
		}
	}
	for _, f := range fields(kinds, 1) {
		for _, l := range lists {
			try(f, tree.Value{Number: f.Number - len(l), Words: l}, true)
		}
		for _, l := range lists[:5] {
			for _, texts := range [][]string{nil, {}, {""}, {"a"}, {"a", "\u00e9"}, {"\xff"}, {"a", "\xc3"}, {"\xc3", "a"}} {
				for i, in := range subs {
					try(f, tree.Value{Number: f.Number + i, Words: l, Texts: texts, Subs: in}, !wrong[i])
				}
			}
		}
	}
	if count[true] < 100 || count[false] < 100 {
		t.Errorf("only %d that fit, %d that don't", count[true], count[false])
	}
}

// fields of these kinds, Repeated or not, with other parts of all sorts.
func fields(kinds []int, of int) []api.Field {
	var l []api.Field
	for _, k := range kinds {
		for _, repeated := range []bool{false, true} {
			l = append(l, api.Field{Name: "f", Number: 7, Kind: k, Repeated: repeated, Of: of}, api.Field{Number: -1, Kind: k, Repeated: repeated, Packed: true, Of: of})
		}
	}
	return l
}

// P14.1: of the kind Sub, Of has to be a message's number, of all others it plays no part; of a schema that isn't right nothing fits.
func TestFitsOf(t *testing.T) {
	s := messages()
	for _, of := range edges(len(s)) {
		f := api.Field{Kind: api.Sub, Of: of}
		if tree.Fits(f, s, tree.Value{Subs: []tree.Msg{{}}}) != (of >= 0 && of < len(s)) {
			t.Errorf("P14.1: Fits of message %d", of)
		}
		f.Kind = api.Uint32
		if !tree.Fits(f, s, tree.Value{Words: []uint64{7}}) {
			t.Errorf("P14.1: Fits of a number, Of %d", of)
		}
		f.Kind = api.String
		if !tree.Fits(f, s, tree.Value{Texts: []string{"a"}}) {
			t.Errorf("P14.1: Fits of a text, Of %d", of)
		}
	}
	for _, ill := range ills() {
		if tree.Fits(api.Field{Kind: api.Uint32}, ill, tree.Value{Words: []uint64{7}}) || tree.Fits(api.Field{Kind: api.Bytes}, ill, tree.Value{Texts: []string{""}}) || tree.Fits(api.Field{Kind: api.Sub}, ill, tree.Value{Subs: []tree.Msg{{}}}) {
			t.Errorf("P14.1: Fits of %v", ill)
		}
	}
	third := tree.Msg{Values: []tree.Value{{Number: 2, Texts: []string{"a"}}}}
	for of, want := range []bool{true, false, false} {
		if tree.Fits(api.Field{Kind: api.Sub, Of: of}, s, tree.Value{Subs: []tree.Msg{third}}) != want {
			t.Errorf("P14.1: Fits of a meaning of the message 0, of %d: %v", of, !want)
		}
	}
}

// P14.2: of any two, right or not: in order, down to the last thing; slices without things are all the same.
func TestSame(t *testing.T) {
	v := func(l ...tree.Value) tree.Msg { return tree.Msg{Values: l} }
	w := func(n int, l ...uint64) tree.Value { return tree.Value{Number: n, Words: l} }
	u := func(l ...string) tree.Msg { return tree.Msg{Unknown: l} }
	in := func(l ...tree.Msg) tree.Value { return tree.Value{Number: 1, Subs: l} }
	unlike := []tree.Msg{
		{}, u(""), u("", ""), u("a"), u("a", "b"), u("b", "a"), u("ab"),
		v(w(0)), v(w(-1)), v(w(1)), v(w(1), w(1)), v(w(1), w(2)), v(w(2), w(1)), v(w(1, 0)), v(w(1, 0, 0)), v(w(1, 1, 0)), v(w(1, 0, 1)), v(w(1, 1<<32)), v(w(2, 0)), v(w(1, 0), w(2, 0)),
		v(tree.Value{Number: 1, Texts: []string{""}}), v(tree.Value{Number: 1, Texts: []string{"a"}}), v(tree.Value{Number: 1, Texts: []string{"a", "b"}}), v(tree.Value{Number: 1, Texts: []string{"b", "a"}}), v(tree.Value{Number: 1, Words: []uint64{0}, Texts: []string{"a"}}),
		v(in(tree.Msg{})), v(in(tree.Msg{}, tree.Msg{})), v(in(u("a"))), v(in(u("a"), u("b"))), v(in(u("b"), u("a"))), v(in(v(in(u("a"))))), v(in(v(in(u("b"))))), v(in(v(w(1)))), v(in(v(w(1, 0)))), v(tree.Value{Number: 1, Words: []uint64{0}, Subs: []tree.Msg{{}}}),
		{Values: []tree.Value{w(1)}, Unknown: []string{"a"}}, full(),
	}
	for i, a := range unlike {
		for j, b := range unlike {
			if tree.Same(a, b) != (i == j) {
				t.Errorf("P14.2: Same of %s, %s: %v", show(a), show(b), i != j)
			}
		}
	}
	empty := tree.Msg{Values: []tree.Value{}, Unknown: []string{}}
	inside := v(tree.Value{Number: 1, Words: []uint64{}, Texts: []string{}, Subs: []tree.Msg{}})
	if !tree.Same(tree.Msg{}, empty) || !tree.Same(empty, tree.Msg{}) || !tree.Same(inside, v(w(1))) || !tree.Same(v(w(1)), inside) || !tree.Same(full(), full()) {
		t.Error("R3: Same of slices without things")
	}
}

// P14.2: the first value of a Number, in new memory, of any meaning; the zero Value and false, if there is none.
func TestGet(t *testing.T) {
	x := tree.Msg{Values: []tree.Value{{Number: 7, Words: []uint64{1}}, {Number: -3, Texts: []string{"a"}}, {Number: 7, Words: []uint64{2}}, {Number: 0, Subs: []tree.Msg{{Unknown: []string{"u"}}}}, {Number: math.MaxInt}, {Number: -3}}}
	for number, want := range map[int]string{7: "7:w1", -3: `-3:t"a"`, 0: `0:s(?"u")`, math.MaxInt: strconv.Itoa(math.MaxInt) + ":"} {
		if v, ok := tree.Get(x, number); showValue(v) != want || !ok {
			t.Errorf("P14.2: Get of %d: %s, %v, not %s", number, showValue(v), ok, want)
		}
	}
	for _, number := range []int{1, -1, 6, 8, math.MinInt, math.MaxInt - 1} {
		if v, ok := tree.Get(x, number); !zero(v) || ok {
			t.Errorf("P14.2: Get of %d: %s, %v", number, showValue(v), ok)
		}
	}
	if v, ok := tree.Get(tree.Msg{}, 0); !zero(v) || ok {
		t.Errorf("P14.2: Get of no values: %s, %v", showValue(v), ok)
	}
	y := full()
	then := show(y)
	for _, v := range y.Values {
		got, _ := tree.Get(y, v.Number)
		c := tree.Msg{Values: []tree.Value{got}}
		spoil(&c)
	}
	if show(y) != then {
		t.Errorf("R4: what Get told was changed, and so was %s to %s", then, show(y))
	}
}

// spoil changes all that a meaning has, and puts more behind each of its lists.
func spoil(x *tree.Msg) {
	for i := range x.Values {
		v := &x.Values[i]
		v.Number += 1000
		for j := range v.Words {
			v.Words[j]++
		}
		for j := range v.Texts {
			v.Texts[j] += "!"
		}
		for j := range v.Subs {
			spoil(&v.Subs[j])
		}
		v.Words, v.Texts, v.Subs = append(v.Words, 99), append(v.Texts, "more"), append(v.Subs, tree.Msg{Unknown: []string{"more"}})
	}
	for i := range x.Unknown {
		x.Unknown[i] += "!"
	}
	x.Values, x.Unknown = append(x.Values, tree.Value{Number: 99}), append(x.Unknown, "more")
}

// grow puts something behind each list of a meaning, but keeps none of it: where two lists share memory, it is seen in the other.
func grow(x tree.Msg) {
	_, _ = append(x.Values, tree.Value{Number: 99, Texts: []string{"grown"}}), append(x.Unknown, "grown")
	for _, v := range x.Values {
		_, _, _ = append(v.Words, 99), append(v.Texts, "grown"), append(v.Subs, tree.Msg{Unknown: []string{"grown"}})
		for _, y := range v.Subs {
			grow(y)
		}
	}
}

// P14.2, R4: a copy is the same, and shares nothing; nor do two lists of one answer.
func TestNewMemory(t *testing.T) {
	s := messages()
	each(func(root int, l []piece) {
		if len(l) < 3 {
			return
		}
		b := []byte(bytesOf(l))
		x, _ := tree.Of(s, root, b, 64)
		then := show(x)
		c := tree.Copy(x)
		grow(x)
		grow(c)
		if show(x) != then || show(c) != then {
			t.Fatalf("R4: two lists of %s share memory", then)
		}
		spoil(&c)
		if show(x) != then {
			t.Fatalf("R4: the copy of %s was changed, and so was it to %s", then, show(x))
		}
		y, _ := tree.Of(s, root, b, 64)
		spoil(&x)
		if show(y) != then || string(b) != bytesOf(l) {
			t.Fatalf("R4: what %q meant was changed, and so was %s", bytesOf(l), show(y))
		}
	})
	for _, x := range []tree.Msg{full(), {}, {Values: []tree.Value{{Number: -5, Words: []uint64{1}, Texts: []string{"\xff"}, Subs: []tree.Msg{{}}}, {Number: -5}}, Unknown: []string{""}}} {
		then := show(x)
		c := tree.Copy(x)
		if show(c) != then {
			t.Errorf("P14.2: Copy of %s: %s", then, show(c))
		}
		spoil(&c)
		if show(x) != then {
			t.Errorf("R4: the copy of %s was changed, and so was it to %s", then, show(x))
		}
	}
}

// P14.2: Depth is that of the deepest, wherever it lies, of any meaning.
func TestDepth(t *testing.T) {
	chain := func(n int) tree.Msg {
		var x tree.Msg
		for range n {
			x = tree.Msg{Values: []tree.Value{{Number: 5, Subs: []tree.Msg{x}}}}
		}
		return x
	}
	wide := func(l ...int) tree.Msg {
		v := tree.Value{Number: 5}
		for _, n := range l {
			v.Subs = append(v.Subs, chain(n))
		}
		return tree.Msg{Values: []tree.Value{{Number: 1, Words: []uint64{1}}, v, {Number: 6, Texts: []string{"a"}}, {Number: 9, Subs: []tree.Msg{{}}}}}
	}
	for _, c := range []struct {
		x    tree.Msg
		want int
	}{
		{tree.Msg{}, 0}, {tree.Msg{Unknown: []string{"\xa2\x01\x00"}}, 0}, {tree.Msg{Values: []tree.Value{{Number: 5}, {Number: 1, Words: []uint64{1}}, {Number: 5, Subs: []tree.Msg{}}}}, 0},
		{wide(0), 1}, {wide(0, 1, 0), 2}, {wide(3, 1, 2), 4}, {wide(1, 2, 3), 4}, {wide(2, 3, 1), 4}, {wide(), 1}, {full(), 2}, {chain(1), 1}, {chain(2), 2}, {chain(63), 63}, {chain(64), 64}, {chain(65), 65}, {chain(300), 300},
	} {
		if n := tree.Depth(c.x); n != c.want {
			t.Errorf("P14.2: Depth of %s: %d, not %d", show(c.x), n, c.want)
		}
	}
}

// R1: meanings as deep as the document's limit are told as all others; what they are made of may be deeper than bytes.
func TestDeep(t *testing.T) {
	s := messages()
	for _, n := range []int{64, 65, 1 << 15, 1<<16 - 1, 1 << 16} {
		x, wrong := tree.Msg{}, tree.Msg{Unknown: []string{"\x08\x01"}}
		for range n {
			x = tree.Msg{Values: []tree.Value{{Number: 5, Subs: []tree.Msg{x}}}}
			wrong = tree.Msg{Values: []tree.Value{{Number: 5, Subs: []tree.Msg{wrong}}}}
		}
		if tree.Depth(x) != n || !tree.Right(s, 0, x) || tree.Right(s, 0, wrong) || !tree.Fits(s[0].Fields[4], s, x.Values[0]) || tree.Fits(s[0].Fields[4], s, wrong.Values[0]) {
			t.Errorf("P14.1, P14.2: Depth, Right or Fits of %d levels", n)
		}
		c := tree.Copy(x)
		v, ok := tree.Get(x, 5)
		if !tree.Same(x, c) || tree.Same(x, wrong) || !ok || !tree.Same(x, tree.Msg{Values: []tree.Value{v}}) {
			t.Errorf("P14.2: Same, Copy or Get of %d levels", n)
		}
	}
}

// R1: a meaning that lies in itself ends nowhere, so it is none; yet each call ends.
func TestEndless(t *testing.T) {
	s := messages()
	l := make([]tree.Msg, 3)
	for i := range l {
		l[i].Values = []tree.Value{{Number: 5, Subs: l}, {Number: 16, Words: []uint64{1}}}
	}
	x := tree.Msg{Values: []tree.Value{{Number: 1, Words: []uint64{1}}, {Number: 5, Subs: l}}}
	if tree.Right(s, 0, x) || tree.Fits(s[0].Fields[4], s, x.Values[1]) {
		t.Error("P14.1: Right or Fits of what has no end")
	}
	if tree.Depth(x) <= 1<<16 || tree.Same(x, full()) || tree.Same(full(), x) {
		t.Error("P14.2: Depth or Same of what has no end")
	}
	tree.Same(x, x)
	tree.Copy(x)
	if v, ok := tree.Get(x, 5); !zero(v) || ok {
		t.Errorf("R2: Get of what has no end: %v", ok)
	}
	if v, ok := tree.Get(x, 1); showValue(v) != "1:w1" || !ok {
		t.Errorf("P14.2: Get beside what has no end: %s, %v", showValue(v), ok)
	}
}

// P14.1: bytes that are as deep as may be, and deeper.
func TestDeepBytes(t *testing.T) {
	s := messages()
	b, x := "\x08\x07", tree.Msg{Values: []tree.Value{{Number: 1, Words: []uint64{7}}}}
	for d := 1; d <= 66; d++ {
		b, x = long(5, b), tree.Msg{Values: []tree.Value{{Number: 5, Subs: []tree.Msg{x}}}}
		if d > 64 {
			meaning(t, s, 0, b, 64, tree.Msg{}, api.Depth)
			continue
		}
		meaning(t, s, 0, b, d, x, api.Fine)
		meaning(t, s, 0, b, d-1, tree.Msg{}, api.Depth)
	}
}

// P14.1: a message of the most fields, of the greatest numbers, in an order of their own.
func TestManyFields(t *testing.T) {
	m := api.Message{Name: "m"}
	var b string
	var x tree.Msg
	for i := range 200 {
		f := api.Field{Name: "f" + strings.Repeat("x", i%50) + strings.Repeat("y", i/50), Number: api.MaxNumber - (7*i)%200, Kind: api.Uint32, Repeated: i%2 == 0}
		m.Fields = append(m.Fields, f)
		b = tag(f.Number, 0, 0) + "\x01" + b + tag(f.Number, 0, 0) + "\x02"
		v := tree.Value{Number: f.Number, Words: []uint64{1, 2}}
		if !f.Repeated {
			v.Words = v.Words[1:]
		}
		x.Values = append(x.Values, v)
	}
	slices.SortFunc(x.Values, func(a, b tree.Value) int { return a.Number - b.Number })
	s := api.Schema{m}
	got := meaning(t, s, 0, b, 0, x, api.Fine)
	if !tree.Right(s, 0, got) {
		t.Error("P14.3: 200 values aren't right")
	}
}

// R1: very many records of each sort, in one message and in many.
func TestManyRecords(t *testing.T) {
	const many = 1 << 16
	s := messages()
	for _, c := range []struct {
		b    string
		want int
	}{{"\x08\x01", many}, {"\x0a\x02\x01\x02", 2 * many}, {"\x12\x01a", 1}, {"\x22\x01a", many}, {"\x2a\x02\x08\x01", many}, {"\x1a\x02\x20\x01", 1}, {"\x3a\x00", 0}, {"\xa0\x01\x07", many}} {
		x, e := tree.Of(s, 0, []byte(strings.Repeat(c.b, many)), 1)
		n := len(x.Unknown)
		for _, v := range x.Values {
			n += len(v.Words) + len(v.Texts) + len(v.Subs)
		}
		if e != api.Fine || n != c.want || !tree.Right(s, 0, x) || !tree.Same(x, tree.Copy(x)) {
			t.Errorf("P14.1: Of many %q: %d things, %v, not %d", c.b, n, e, c.want)
		}
		if c.b[0] == 0x1a && len(x.Values[0].Subs[0].Values[0].Words) != many {
			t.Error("P14.1: Of many messages that are one")
		}
	}
}

// R6: nothing is kept: what is done to a schema between calls is seen, and a meaning told twice is the same.
func TestNothingIsKept(t *testing.T) {
	s := one(api.Field{Number: 5, Kind: api.Uint64})
	for range 2 {
		for k := api.Int32; k <= api.Double; k++ {
			s[0].Fields[0].Kind = k
			for _, i := range items(k) {
				want := tree.Msg{Values: []tree.Value{{Number: 5, Words: []uint64{i.word}}}}
				meaning(t, s, 0, tag(5, wireOf(k), 0)+i.bytes, 0, want, api.Fine)
			}
		}
		s[0].Fields[0].Number = 6
		meaning(t, s, 0, "\x28\x01", 0, tree.Msg{Unknown: []string{"\x28\x01"}}, api.Fine)
		s[0].Fields[0].Number = 5
	}
}

// P14.1: the chapter's example, and those of the whole.
func TestExamples(t *testing.T) {
	words := func(number int, l ...uint64) tree.Value { return tree.Value{Number: number, Words: l} }
	msg := func(l ...tree.Value) tree.Msg { return tree.Msg{Values: l} }
	meaning(t, one(api.Field{Number: 1, Kind: api.Uint32}), 0, "\x08\x01\x08\x02", 0, msg(words(1, 2)), api.Fine)
	meaning(t, one(api.Field{Number: 1, Kind: api.Uint32, Repeated: true}), 0, "\x08\x01\x08\x02", 0, msg(words(1, 1, 2)), api.Fine)
	s := api.Schema{{Name: "m", Fields: []api.Field{{Name: "a", Number: 1, Kind: api.Sub}, {Name: "b", Number: 2, Kind: api.Uint32}, {Name: "s", Number: 4, Kind: api.String}}}}
	five := tree.Value{Number: 1, Subs: []tree.Msg{msg(words(2, 5))}}
	meaning(t, s, 0, "\x10\x81\x00\x0a\x02\x10\x05", 1, msg(five, words(2, 1)), api.Fine)
	meaning(t, s, 0, "\x0a\x02\x10\x05\x10\x01", 1, msg(five, words(2, 1)), api.Fine)
	meaning(t, s, 0, "\x10\x01\x10\x02", 0, msg(words(2, 2)), api.Fine)
	meaning(t, s, 0, "\x18\x07\x10\x00", 0, tree.Msg{Values: []tree.Value{words(2, 0)}, Unknown: []string{"\x18\x07"}}, api.Fine)
	meaning(t, s, 0, "\x10\x01\x22\x03a\xffb", 0, tree.Msg{}, api.Utf)
}
