package canon_test

import (
	"math"
	"slices"
	"strconv"
	"strings"
	"testing"

	"darning/api"
	"darning/canon"
	"darning/kind"
	"darning/tree"
	"darning/valid"
)

// messages is a schema of three, whose fields stand in no order: 0 has fields of all kinds, by their kinds' numbers one of each, and 30 on Repeated ones, every other one Packed; 1 has the same numbers for fields of unlike sorts; 2 has none.
func messages() api.Schema {
	m := api.Message{Name: "m"}
	for k := api.Sub; k >= api.Int32; k-- {
		m.Fields = append(m.Fields,
			api.Field{Name: "l" + strconv.Itoa(k), Number: 30 + k, Kind: k, Repeated: true, Packed: k%2 == 0 && k < api.String},
			api.Field{Name: "f" + strconv.Itoa(k), Number: k, Kind: k, Of: k / api.Sub})
	}
	return api.Schema{m,
		{Name: "n", Fields: []api.Field{
			{Name: "z", Number: api.MaxNumber, Kind: api.Fixed32},
			{Name: "y", Number: 2048, Kind: api.Bytes},
			{Name: "n", Number: 2, Kind: api.Sub, Of: 1},
			{Name: "x", Number: 2047, Kind: api.Sint64, Repeated: true, Packed: true},
			{Name: "m", Number: 4, Kind: api.Sub},
			{Name: "d", Number: 1, Kind: api.Double, Repeated: true},
			{Name: "e", Number: 5, Kind: api.Sub, Repeated: true, Of: 2},
			{Name: "s", Number: 3, Kind: api.String},
		}},
		{Name: "e"},
	}
}

// ills are schemas that aren't right.
func ills() []api.Schema {
	double, of, name := messages(), messages(), messages()
	double[1].Fields[2].Number = 5
	of[0].Fields[0].Of = 3
	name[2].Name = "1"
	return []api.Schema{nil, {}, make(api.Schema, 1), make(api.Schema, 101), double, of, name}
}

// show a meaning as a text that no other one has; slices without things are all alike.
func show(x tree.Msg) string {
	var b strings.Builder
	showIn(&b, x)
	return b.String()
}

func showIn(b *strings.Builder, x tree.Msg) {
	b.WriteByte('(')
	for _, v := range x.Values {
		b.WriteString(" " + strconv.Itoa(v.Number) + ":")
		for _, w := range v.Words {
			b.WriteString("w" + strconv.FormatUint(w, 10))
		}
		for _, t := range v.Texts {
			b.WriteString("t" + strconv.Quote(t))
		}
		for _, sub := range v.Subs {
			b.WriteByte('s')
			showIn(b, sub)
		}
	}
	for _, u := range x.Unknown {
		b.WriteString("?" + strconv.Quote(u))
	}
	b.WriteByte(')')
}

// showSchema as a text.
func showSchema(s api.Schema) string {
	var b strings.Builder
	for _, m := range s {
		b.WriteString(m.Name + ":")
		for _, f := range m.Fields {
			b.WriteString(f.Name + " " + strconv.Itoa(f.Number) + " " + strconv.Itoa(f.Kind) + strconv.FormatBool(f.Repeated) + strconv.FormatBool(f.Packed) + strconv.Itoa(f.Of) + ",")
		}
	}
	return b.String()
}

// values is a meaning of these.
func values(l ...tree.Value) tree.Msg { return tree.Msg{Values: l} }

// unknown is a meaning of these unknown records alone.
func unknown(l ...string) tree.Msg { return tree.Msg{Unknown: l} }

// words, texts and subs are values.
func words(number int, l ...uint64) tree.Value  { return tree.Value{Number: number, Words: l} }
func texts(number int, l ...string) tree.Value  { return tree.Value{Number: number, Texts: l} }
func subs(number int, l ...tree.Msg) tree.Value { return tree.Value{Number: number, Subs: l} }

// varint is a word as a minimal varint.
func varint(w uint64) string {
	b := ""
	for ; w >= 128; w /= 128 {
		b += string([]byte{byte(128 + w%128)})
	}
	return b + string([]byte{byte(w)})
}

// little is a word's lowest bytes, the lowest first.
func little(w uint64, count int) string {
	b := ""
	for range count {
		b += string([]byte{byte(w % 256)})
		w /= 256
	}
	return b
}

// tag is a record's.
func tag(number, wire int) string { return varint(8*uint64(number) + uint64(wire)) }

// long is a record of wire type 2.
func long(number int, value string) string {
	return tag(number, 2) + varint(uint64(len(value))) + value
}

// word tells a canonical word's wire type and bytes.
func word(k int, w uint64) (int, string) {
	switch k {
	case api.Fixed32, api.Sfixed32, api.Float:
		return 5, little(w, 4)
	case api.Fixed64, api.Sfixed64, api.Double:
		return 1, little(w, 8)
	}
	return 0, varint(w)
}

// canonical tells by the chapter's words what a meaning's canonical bytes are.
func canonical(s api.Schema, message int, x tree.Msg) string {
	b := ""
	for _, v := range x.Values {
		for _, f := range s[message].Fields {
			if f.Number == v.Number {
				b += records(s, f, v)
			}
		}
	}
	return b + strings.Join(x.Unknown, "")
}

// records tells by the chapter's words what a value's are.
func records(s api.Schema, f api.Field, v tree.Value) string {
	b, all := "", ""
	for _, w := range v.Words {
		wire, bytes := word(f.Kind, w)
		b += tag(f.Number, wire) + bytes
		all += bytes
	}
	for _, text := range v.Texts {
		b += long(f.Number, text)
	}
	for _, x := range v.Subs {
		b += long(f.Number, canonical(s, f.Of, x))
	}
	if f.Repeated && len(v.Words) > 0 {
		return long(f.Number, all)
	}
	return b
}

// isCanonical tells by the chapter's words whether bytes are the canonical ones of what they mean.
func isCanonical(s api.Schema, root int, b string) bool {
	x, e := tree.Of(s, root, []byte(b), 64)
	return e == api.Fine && canonical(s, root, x) == b
}

// dice are numbers that look like chance, and are the same each time.
type dice uint64

// under tells the next one, from 0 to n - 1.
func (d *dice) under(n int) int {
	*d = *d*6364136223846793005 + 1442695040888963407
	return int(uint64(*d) >> 33 % uint64(n))
}

// word that is canonical, of a kind: mostly one at an edge.
func (d *dice) word(k int) uint64 {
	l := []uint64{0, 1, 2, 127, 128, 300, 1<<14 - 1, 1 << 14, 1<<31 - 1, 1 << 31, 1<<32 - 1, 1 << 32, 1<<63 - 1, 1 << 63, 1<<64 - 1, uint64(*d)}
	w, _ := kind.Canon(k, l[d.under(len(l))])
	return w
}

// text that is right, of a code point or two, or of more than a varint's piece can count.
func (d *dice) text() string {
	l := []string{"", "a", "\x00", "é", "ab", strings.Repeat("x", 127), strings.Repeat("y", 128)}
	return l[d.under(len(l))]
}

// strangers are records that no message's field has the number of, minimal and not.
func strangers() []string {
	return []string{"\xa0\x06\x07", "\xa2\x06\x01a", "\xa2\x06\x00", "\xa5\x06\x01\x00\x00\x00", "\xa1\x06\x01\x02\x03\x04\x05\x06\x07\x08", "\xa0\x86\x00\x07", "\xa0\x06\x87\x80\x00", "\xa2\x06\x82\x00ab"}
}

// meaning of a message, of up to so many levels.
func (d *dice) meaning(s api.Schema, message, levels int) tree.Msg {
	var x tree.Msg
	fields := slices.Clone(s[message].Fields)
	slices.SortFunc(fields, func(a, b api.Field) int { return a.Number - b.Number })
	for _, f := range fields {
		if d.under(6) == 0 && (f.Kind != api.Sub || levels > 0) {
			x.Values = append(x.Values, d.value(s, f, levels))
		}
	}
	for range d.under(3) {
		x.Unknown = append(x.Unknown, strangers()[d.under(len(strangers()))])
	}
	return x
}

// value of a field.
func (d *dice) value(s api.Schema, f api.Field, levels int) tree.Value {
	v, count := tree.Value{Number: f.Number}, 1
	if f.Repeated {
		count += d.under(3)
	}
	for range count {
		switch f.Kind {
		case api.Sub:
			v.Subs = append(v.Subs, d.meaning(s, f.Of, d.under(levels)))
		case api.String:
			v.Texts = append(v.Texts, d.text())
		case api.Bytes:
			v.Texts = append(v.Texts, d.text()+"\xff"[:d.under(2)])
		default:
			v.Words = append(v.Words, d.word(f.Kind))
		}
	}
	return v
}

// pool is a message's meanings: of nothing, and of all sorts.
func pool(s api.Schema, message, count int) []tree.Msg {
	d := dice(message)
	l := []tree.Msg{{}, {Values: []tree.Value{}, Unknown: []string{}}, unknown("\xa0\x06\x07")}
	for i := len(l); i < count; i++ {
		l = append(l, d.meaning(s, message, i%5))
	}
	return l
}

// told checks bytes that were told, that what was handed in is as it was then, and that bytes told anew are others.
func told(t *testing.T, name, want string, why api.Code, in func() string, ask func() ([]byte, api.Code)) {
	t.Helper()
	then := in()
	b, e := ask()
	if string(b) != want || e != why {
		t.Fatalf("%s of %s: %q, %v, not %q, %v", name, then, b, e, want, why)
	}
	for i := range b {
		b[i]++
	}
	if now := in(); now != then {
		t.Fatalf("R4: %s: %s was changed to %s", name, then, now)
	}
	if b, _ = ask(); string(b) != want {
		t.Fatalf("R4: %s: what it told was changed, and so was what it told behind that: %q, not %q", name, b, want)
	}
}

// encode checks Encode and Size of a meaning.
func encode(t *testing.T, s api.Schema, root int, x tree.Msg, want string, why api.Code) {
	t.Helper()
	in := func() string { return show(x) }
	told(t, "P16.1: Encode", want, why, in, func() ([]byte, api.Code) { return canon.Encode(s, root, x) })
	if n, e := canon.Size(s, root, x); n != len(want) || e != why {
		t.Fatalf("P16.1: Size of %s: %d, %v, not %d, %v", show(x), n, e, len(want), why)
	}
}

// value checks Value.
func value(t *testing.T, s api.Schema, f api.Field, v tree.Value, want string, why api.Code) {
	t.Helper()
	in := func() string { return show(values(v)) }
	told(t, "P16.1: Value for "+showSchema(api.Schema{{Fields: []api.Field{f}}}), want, why, in, func() ([]byte, api.Code) { return canon.Value(s, f, v) })
}

// is checks Is.
func is(t *testing.T, s api.Schema, root int, b string, want bool) {
	t.Helper()
	l := []byte(b)
	if canon.Is(s, root, l) != want {
		t.Fatalf("P16.2: Is of %q isn't %t", b, want)
	}
	if string(l) != b {
		t.Fatalf("R4: Is: %q was changed to %q", b, l)
	}
}

// P16.1, P16.2, P16.3: meanings of all sorts; their bytes mean them again, are canonical, and no other one has them.
func TestEncode(t *testing.T) {
	s := messages()
	for root := range s {
		met := map[string]string{}
		for _, x := range pool(s, root, 3000) {
			b, text := canonical(s, root, x), show(x)
			encode(t, s, root, x, b, api.Fine)
			is(t, s, root, b, true)
			if y, e := tree.Of(s, root, []byte(b), 64); show(y) != text || e != api.Fine {
				t.Fatalf("P16.3: the canonical bytes of %s mean %s, %v", text, show(y), e)
			}
			if other, ok := met[b]; ok && other != text {
				t.Fatalf("P16.3: %q are the canonical bytes of %s, and of %s", b, text, other)
			}
			met[b] = text
		}
	}
	if showSchema(s) != showSchema(messages()) {
		t.Error("R4: the schema was changed")
	}
}

// P16.1: a word of each kind, of a field that isn't Repeated, and of one that is, written out.
func TestWords(t *testing.T) {
	const minus = "\xff\xff\xff\xff\xff\xff\xff\xff\xff\x01"
	for _, c := range []struct {
		kind  int
		word  uint64
		wire  int
		bytes string
	}{
		{api.Int32, 1<<64 - 1, 0, minus}, {api.Int32, 1<<31 - 1, 0, "\xff\xff\xff\xff\x07"}, {api.Int32, 1<<64 - 1<<31, 0, "\x80\x80\x80\x80\xf8\xff\xff\xff\xff\x01"},
		{api.Int64, 1<<64 - 1, 0, minus}, {api.Int64, 0, 0, "\x00"}, {api.Int64, 1 << 35, 0, "\x80\x80\x80\x80\x80\x01"},
		{api.Uint32, 1<<32 - 1, 0, "\xff\xff\xff\xff\x0f"}, {api.Uint32, 300, 0, "\xac\x02"},
		{api.Uint64, 1<<64 - 1, 0, minus}, {api.Uint64, 127, 0, "\x7f"}, {api.Uint64, 128, 0, "\x80\x01"},
		{api.Sint32, 1<<32 - 1, 0, "\xff\xff\xff\xff\x0f"}, {api.Sint32, 1, 0, "\x01"},
		{api.Sint64, 1<<64 - 1, 0, minus}, {api.Sint64, 2, 0, "\x02"},
		{api.Bool, 0, 0, "\x00"}, {api.Bool, 1, 0, "\x01"},
		{api.Enum, 1<<64 - 1, 0, minus}, {api.Enum, 5, 0, "\x05"},
		{api.Fixed32, 1<<32 - 2, 5, "\xfe\xff\xff\xff"}, {api.Fixed32, 0, 5, "\x00\x00\x00\x00"},
		{api.Sfixed32, 1<<32 - 1, 5, "\xff\xff\xff\xff"}, {api.Sfixed32, 0x01020304, 5, "\x04\x03\x02\x01"},
		{api.Float, 0x3f800000, 5, "\x00\x00\x80\x3f"}, {api.Float, 1 << 31, 5, "\x00\x00\x00\x80"},
		{api.Fixed64, 1, 1, "\x01\x00\x00\x00\x00\x00\x00\x00"}, {api.Fixed64, 1<<64 - 1, 1, "\xff\xff\xff\xff\xff\xff\xff\xff"},
		{api.Sfixed64, 0x0102030405060708, 1, "\x08\x07\x06\x05\x04\x03\x02\x01"},
		{api.Double, 0x3ff0000000000000, 1, "\x00\x00\x00\x00\x00\x00\xf0\x3f"},
	} {
		for _, packed := range []bool{false, true} {
			f := api.Field{Name: "f", Number: 3, Kind: c.kind}
			g := api.Field{Name: "g", Number: 16, Kind: c.kind, Repeated: true, Packed: packed}
			s := api.Schema{{Name: "m", Fields: []api.Field{g, f}}}
			one := string([]byte{24 + byte(c.wire)}) + c.bytes
			run := "\x82\x01" + string([]byte{byte(len(c.bytes))}) + c.bytes
			encode(t, s, 0, values(words(3, c.word)), one, api.Fine)
			encode(t, s, 0, values(words(16, c.word)), run, api.Fine)
			encode(t, s, 0, values(words(3, c.word), words(16, c.word)), one+run, api.Fine)
			value(t, s, f, words(16, c.word), one, api.Fine)
			value(t, s, g, words(3, c.word), run, api.Fine)
			twice := "\x82\x01" + string([]byte{byte(2 * len(c.bytes))}) + c.bytes + c.bytes
			encode(t, s, 0, values(words(16, c.word, c.word)), twice, api.Fine)
			value(t, s, g, words(0, c.word, c.word), twice, api.Fine)
			is(t, s, 0, one+twice, true)
			is(t, s, 0, twice+one, false)
			is(t, s, 0, tag(16, c.wire)+c.bytes, false)
		}
	}
}

// P16.1: texts, meanings in meanings, and unknown records, written out.
func TestRecords(t *testing.T) {
	s := messages()
	for _, c := range []struct {
		root int
		x    tree.Msg
		want string
	}{
		{0, tree.Msg{}, ""},
		{0, values(texts(15, "")), "\x7a\x00"},
		{0, values(texts(15, "a\x00")), "\x7a\x02a\x00"},
		{0, values(texts(16, "\xff")), "\x82\x01\x01\xff"},
		{0, values(texts(45, "b", "", "a", "b")), "\xea\x02\x01b\xea\x02\x00\xea\x02\x01a\xea\x02\x01b"},
		{0, values(texts(46, "\x80", "")), "\xf2\x02\x01\x80\xf2\x02\x00"},
		{0, values(subs(17, tree.Msg{})), "\x8a\x01\x00"},
		{0, values(subs(17, values(texts(3, "a")))), "\x8a\x01\x03\x1a\x01a"},
		{0, values(subs(47, tree.Msg{}, values(words(7, 1)), tree.Msg{})), "\xfa\x02\x00\xfa\x02\x02\x38\x01\xfa\x02\x00"},
		{0, values(subs(47, values(subs(47, values(), unknown("\xa0\x86\x00\x07"))), values(words(1, 2)))), "\xfa\x02\x0a\xfa\x02\x00\xfa\x02\x04\xa0\x86\x00\x07\xfa\x02\x02\x08\x02"},
		{1, values(words(1, 0), subs(2, values(subs(4, values(subs(17, unknown("\xa2\x06\x00")))))), words(2047, 1, 150), texts(2048, "a"), words(api.MaxNumber, 7)),
			"\x0a\x08\x00\x00\x00\x00\x00\x00\x00\x00\x12\x08\x22\x06\x8a\x01\x03\xa2\x06\x00\xfa\x7f\x03\x01\x96\x01\x82\x80\x01\x01a\xfd\xff\xff\xff\x0f\x07\x00\x00\x00"},
		{0, unknown("\xa2\x06\x82\x00ab", "\xa0\x06\x07", "\xa0\x86\x80\x00\x07", "\xa0\x06\x07"), "\xa2\x06\x82\x00ab\xa0\x06\x07\xa0\x86\x80\x00\x07\xa0\x06\x07"},
		{0, tree.Msg{Values: []tree.Value{words(1, 1), words(44, 0)}, Unknown: []string{"\xc0\x3e\x01", "\xc8\x01\x01"}}, "\x08\x01\xe2\x02\x08\x00\x00\x00\x00\x00\x00\x00\x00\xc0\x3e\x01\xc8\x01\x01"},
		{2, unknown("\x08\x81\x00", "\x0a\x01a", "\x08\x01"), "\x08\x81\x00\x0a\x01a\x08\x01"},
	} {
		encode(t, s, c.root, c.x, c.want, api.Fine)
		is(t, s, c.root, c.want, true)
	}
}

// P16.1: lengths about those at which a varint, and so the lengths of all messages around, get a byte more.
func TestLengths(t *testing.T) {
	s := api.Schema{{Name: "m", Fields: []api.Field{{Name: "m", Number: 2, Kind: api.Sub}, {Name: "b", Number: 1, Kind: api.Bytes}, {Name: "l", Number: 3, Kind: api.Bool, Repeated: true}}}}
	for _, about := range []int{128, 1 << 14, 1 << 21} {
		for size := about - 12; size < about+3; size++ {
			text := strings.Repeat("a", size)
			x, want := values(texts(1, text)), long(1, text)
			for range 4 {
				b, e := canon.Encode(s, 0, x)
				n, _ := canon.Size(s, 0, x)
				if string(b) != want || e != api.Fine || n != len(want) {
					t.Fatalf("P16.1: Encode of a text of %d bytes: %v, and Size: %d, not %d", size, e, n, len(want))
				}
				x, want = values(subs(2, x)), long(2, want)
			}
			if about < 1<<21 {
				encode(t, s, 0, values(words(3, slices.Repeat([]uint64{1}, size)...)), long(3, strings.Repeat("\x01", size)), api.Fine)
			}
		}
	}
}

// candidates are values of all sorts, for fields of all sorts.
func candidates() []tree.Value {
	mixed, both := words(1, 1), texts(1, "a")
	mixed.Texts = []string{"a"}
	both.Subs = []tree.Msg{{}}
	return []tree.Value{
		{}, {Number: 5}, {Number: -1, Words: []uint64{}, Texts: []string{}, Subs: []tree.Msg{}}, mixed, both,
		words(0, 1), words(1, 0), words(-3, 300), words(2, 1<<31), words(5, 1<<40), words(1, 1<<64-1), words(2, 1, 0), words(2, 1, 300, 2), words(1, 0, 1<<40),
		texts(4, ""), texts(1, "a"), texts(99, "\xff"), texts(6, "a", "b"), texts(6, "a", "\xff"),
		subs(5, tree.Msg{}), subs(0, unknown("\xa0\x06\x07")), subs(5, unknown("\x08\x01")), subs(5, values(words(1, 9))), subs(5, values(texts(3, "é"))), subs(7, tree.Msg{}, values(words(7, 1))), subs(1, values(words(1, 9)), tree.Msg{}), subs(1, values(subs(2, tree.Msg{}))),
	}
}

// P16.1: values of all sorts, for fields of all kinds and of none, of all numbers, that fit and don't.
func TestValue(t *testing.T) {
	s := messages()
	count := map[api.Code]int{}
	for _, number := range []int{math.MinInt, -1, 0, 1, 2, 15, 16, 2047, 2048, 19000, 1<<18 - 1, 1 << 18, 1<<25 - 1, 1 << 25, api.MaxNumber, api.MaxNumber + 1, 1 << 32, 1<<32 + 1, math.MaxInt} {
		for k := -1; k < 20; k++ {
			for of := -1; of < 4; of++ {
				if of != 0 && k != api.Sub && k != api.Uint32 {
					// The message of what isn't of the kind Sub plays no part.
					continue
				}
				for _, repeated := range []bool{false, true} {
					f := api.Field{Number: number, Kind: k, Repeated: repeated, Packed: number > 15, Of: of}
					for _, v := range candidates() {
						want, why := "", api.Form
						if number > 0 && number <= 536870911 && tree.Fits(f, s, v) {
							want, why = records(s, f, v), api.Fine
						}
						count[why]++
						value(t, s, f, v, want, why)
					}
				}
			}
		}
	}
	if count[api.Fine] < 2000 || count[api.Form] < 2000 {
		t.Errorf("only %d fit, and %d don't", count[api.Fine], count[api.Form])
	}
}

// P16.1: a meaning's bytes are those of its values, and its unknown records behind them.
func TestPieces(t *testing.T) {
	s := messages()
	for root := range s {
		for _, x := range pool(s, root, 300) {
			want := ""
			for _, v := range x.Values {
				i := slices.IndexFunc(s[root].Fields, func(f api.Field) bool { return f.Number == v.Number })
				b, e := canon.Value(s, s[root].Fields[i], v)
				if e != api.Fine {
					t.Fatalf("P16.1: Value of %s: %v", show(values(v)), e)
				}
				want += string(b)
			}
			encode(t, s, root, x, want+strings.Join(x.Unknown, ""), api.Fine)
		}
	}
}

// P16.2: all bytes of up to six of these.
func TestIsAll(t *testing.T) {
	s := api.Schema{{Name: "m", Fields: []api.Field{{Name: "l", Number: 3, Kind: api.Bool, Repeated: true}, {Name: "b", Number: 1, Kind: api.Bool}, {Name: "m", Number: 2, Kind: api.Sub}}}}
	yes, valids := 0, 0
	for size := range 7 {
		for _, b := range allBytes("\x00\x01\x02\x08\x12\x1a\x80", size) {
			want := isCanonical(s, 0, b)
			is(t, s, 0, b, want)
			if want {
				yes++
			}
			if valid.Is(s, 0, []byte(b), 64) {
				valids++
			}
		}
	}
	if yes < 100 || valids-yes < 100 {
		t.Errorf("only %d are canonical, of %d valid ones", yes, valids)
	}
}

// allBytes are all texts of so many of these bytes.
func allBytes(of string, size int) []string {
	l := []string{""}
	for range size {
		var more []string
		for _, b := range l {
			for i := range len(of) {
				more = append(more, b+of[i:i+1])
			}
		}
		l = more
	}
	return l
}

// P16.2: canonical bytes with one byte more, one less, or another one.
func TestIsChanged(t *testing.T) {
	s, d := messages(), dice(3)
	for root := range s {
		for _, x := range pool(s, root, 150) {
			b := canonical(s, root, x)
			for range 10 {
				i := d.under(len(b) + 1)
				j := min(len(b), i+1)
				more := string([]byte{byte([]int{0, 1, 2, 128, 255, d.under(256)}[d.under(6)])})
				for _, c := range []string{b[:i] + more + b[i:], b[:i] + b[j:], b[:i] + more + b[j:], b[i:] + b[:i], b[:i]} {
					is(t, s, root, c, isCanonical(s, root, c))
				}
			}
		}
	}
}

// P16.2: what is valid, but not in one way, written out.
func TestIsWritten(t *testing.T) {
	s := messages()
	for _, c := range []struct {
		b    string
		want bool
	}{
		{"", true}, {"\x08\x01", true}, {"\x08\x01\x10\x01", true}, {"\x10\x01\x08\x01", false}, {"\x08\x01\x08\x01", false}, {"\x88\x00\x01", false}, {"\x08\x81\x00", false},
		{"\x08\xff\xff\xff\xff\x0f", false}, {"\x08\xff\xff\xff\xff\xff\xff\xff\xff\xff\x01", true}, {"\x08\xff\xff\xff\xff\xff\xff\xff\xff\xff\x03", false}, {"\x18\xff\xff\xff\xff\x1f", false}, {"\x38\x02", false}, {"\x38\x00", true},
		{"\x7a\x01a", true}, {"\x7a\x81\x00a", false}, {"\x7a\x01a\x7a\x01a", false}, {"\xfa\x00\x01a", false}, {"\x7a\x01\xff", false}, {"\x82\x01\x01\xff", true},
		{"\xf8\x01\x01", false}, {"\xfa\x01\x01\x01", true}, {"\xfa\x01\x02\x01\x01", true}, {"\xfa\x01\x01\x01\xfa\x01\x01\x01", false}, {"\xfa\x01\x00", false}, {"\xfa\x01\x02\x81\x00", false}, {"\xaa\x02\x01\x02", false}, {"\xfa\x01\x81\x00\x01", false},
		{"\xbd\x02\x01\x00\x00\x00", false}, {"\xba\x02\x04\x01\x00\x00\x00", true}, {"\xba\x02\x05\x01\x00\x00\x00\x00", false},
		{"\xea\x02\x00\xea\x02\x00", true}, {"\xea\x02\x01b\xea\x02\x01a", true},
		{"\x8a\x01\x00", true}, {"\x8a\x01\x00\x8a\x01\x00", false}, {"\x8a\x01\x80\x00", false}, {"\x8a\x01\x03\x1a\x01a", true}, {"\x8a\x01\x04\x1a\x81\x00a", false}, {"\x8a\x01\x06\x1a\x01a\x1a\x01a", false}, {"\x8a\x01\x07\x1a\x01a\xa0\x86\x00\x07", true}, {"\x8a\x01\x07\xa0\x86\x00\x07\x1a\x01a", false}, {"\x8a\x01\x07\x1a\x01a\xa0\x86\x00", false},
		{"\xfa\x02\x00\xfa\x02\x00", true}, {"\xfa\x02\x02\x08\x01\xfa\x02\x03\x88\x00\x01", false},
		{"\xa0\x06\x07", true}, {"\xa0\x86\x00\x07", true}, {"\x08\x01\xa0\x86\x00\x07", true}, {"\xa0\x06\x07\x08\x01", false}, {"\xa2\x06\x82\x00ab\xa0\x06\x07", true},
		{"\x08", false}, {"\x0d\x01\x00\x00\x00", false}, {"\x0b", false}, {"\x00", false}, {"\x08\x01\x00", false},
	} {
		is(t, s, 0, c.b, c.want)
	}
}

// edges are a number's neighbours, and the ends.
func edges(size int) []int {
	return []int{math.MinInt, -2, -1, 0, size - 1, size, size + 1, 64, 255, 256, math.MaxInt}
}

// P16.1, P16.2, R2: of all that is wrong at once what the chapter names first is told, and nothing else.
func TestErrors(t *testing.T) {
	wrongs := []tree.Msg{
		values(words(1)), values(words(1, 1, 2)), values(words(1, 1<<32)), values(texts(1, "a")), values(words(99, 1)), values(words(0, 1)), values(words(-1, 1)), values(words(2, 1), words(1, 1)), values(words(1, 1), words(1, 1)), values(texts(15, "\xff")), values(words(31, 1, 1<<31)), values(words(7, 2)),
		values(subs(17, tree.Msg{}, tree.Msg{})), values(subs(17, values(words(1)))), values(subs(47, tree.Msg{}, values(words(7, 2)))),
		unknown(""), unknown("\x08\x01"), unknown("\xa0\x06"), unknown("\xa0\x06\x01\xa0\x06\x01"), unknown("\xa0\x06\x01", "\x09"), values(subs(47, unknown("\x08\x01"))), {Values: []tree.Value{words(1, 1)}, Unknown: []string{""}},
	}
	for i, s := range append([]api.Schema{messages()}, ills()...) {
		for _, root := range edges(len(messages())) {
			for j, x := range append([]tree.Msg{{}, values(words(1, 1))}, wrongs...) {
				want, why := "", api.Fine
				switch {
				case i > 0:
					why = api.Ill
				case root < 0 || root > 2:
					why = api.Arg
				case j > 1 && root > 0 && tree.Right(s, root, x):
					// What is wrong for the message 0 may be right for another one.
					continue
				case j > 1 || j == 1 && root > 0:
					why = api.Form
				case j == 1:
					want = "\x08\x01"
				}
				encode(t, s, root, x, want, why)
			}
			is(t, s, root, "", i == 0 && root >= 0 && root < 3)
			is(t, s, root, "\x08\x01", i == 0 && (root == 0 || root == 2))
			is(t, s, root, "\x08", false)
		}
		for _, number := range edges(api.MaxNumber + 1) {
			f := api.Field{Name: "f", Number: number, Kind: api.Uint32}
			for _, v := range []tree.Value{words(1, 1), words(1), texts(1, "a"), words(1, 1<<32)} {
				want, why := "", api.Form
				switch {
				case i > 0:
					why = api.Ill
				case number > 0 && number <= api.MaxNumber && len(v.Words) > 0 && v.Words[0] == 1:
					want, why = tag(number, 0)+"\x01", api.Fine
				}
				value(t, s, f, v, want, why)
			}
		}
	}
}

// nested is a meaning in so many levels of the field 47 of the message 0.
func nested(x tree.Msg, levels int) tree.Msg {
	for range levels {
		x = values(subs(47, x))
	}
	return x
}

// nestedBytes are the canonical bytes of that; the heads are reckoned from inside, and written from outside.
func nestedBytes(inner string, levels int) string {
	heads, size := []string{}, len(inner)
	for range levels {
		head := tag(47, 2) + varint(uint64(size))
		heads = append(heads, head)
		size += len(head)
	}
	slices.Reverse(heads)
	return strings.Join(heads, "") + inner
}

// R1: meanings as deep as the document's limit are worked on as all others; bytes mean something within 64 levels alone.
func TestDeep(t *testing.T) {
	s := messages()
	in := tree.Msg{Values: []tree.Value{words(1, 1), words(32, 2, 3)}, Unknown: []string{"\xa0\x06\x07"}}
	bytes := "\x08\x01\x82\x02\x02\x02\x03\xa0\x06\x07"
	for _, levels := range []int{0, 1, 63, 64, 65, 66, 1000, 1<<16 - 1, 1 << 16} {
		x, want := nested(in, levels), nestedBytes(bytes, levels)
		b, e := canon.Encode(s, 0, x)
		if string(b) != want || e != api.Fine {
			t.Errorf("P16.1: Encode of %d levels: %v", levels, e)
		}
		if n, e := canon.Size(s, 0, x); n != len(want) || e != api.Fine {
			t.Errorf("P16.1: Size of %d levels: %d, %v", levels, n, e)
		}
		if canon.Is(s, 0, b) != (levels <= 64) {
			t.Errorf("P16.2: Is of %d levels: %t", levels, levels > 64)
		}
		f := api.Field{Number: 47, Kind: api.Sub, Repeated: true}
		if b, e = canon.Value(s, f, subs(0, x, x)); string(b) != long(47, want)+long(47, want) || e != api.Fine {
			t.Errorf("P16.1: Value of %d levels: %v", levels, e)
		}
	}
}

// R1: what lies in itself ends nowhere, so it is no meaning, and no value; yet each call ends.
func TestEndless(t *testing.T) {
	s := messages()
	l := make([]tree.Msg, 1)
	l[0] = values(words(1, 1), subs(47, l[0]))
	l[0].Values[1].Subs = l
	if b, e := canon.Encode(s, 0, l[0]); len(b) > 0 || e != api.Form {
		t.Errorf("P16.1: Encode of what has no end: %d bytes, %v", len(b), e)
	}
	if n, e := canon.Size(s, 0, l[0]); n != 0 || e != api.Form {
		t.Errorf("P16.1: Size of what has no end: %d, %v", n, e)
	}
	if b, e := canon.Value(s, api.Field{Number: 47, Kind: api.Sub, Repeated: true}, l[0].Values[1]); len(b) > 0 || e != api.Form {
		t.Errorf("P16.1: Value of what has no end: %d bytes, %v", len(b), e)
	}
}

// R1: very long lists of all sorts.
func TestMany(t *testing.T) {
	const many = 1 << 18
	s := messages()
	for _, c := range []struct {
		x    tree.Msg
		want string
	}{
		{values(words(33, slices.Repeat([]uint64{300}, many)...)), "\x8a\x02" + varint(2*many) + strings.Repeat("\xac\x02", many)},
		{values(words(44, slices.Repeat([]uint64{1}, many)...)), "\xe2\x02" + varint(8*many) + strings.Repeat("\x01\x00\x00\x00\x00\x00\x00\x00", many)},
		{values(texts(45, slices.Repeat([]string{"a"}, many)...)), strings.Repeat("\xea\x02\x01a", many)},
		{values(texts(15, strings.Repeat("é", many))), long(15, strings.Repeat("é", many))},
		{values(subs(47, slices.Repeat([]tree.Msg{values(words(9, 1))}, many)...)), strings.Repeat("\xfa\x02\x05\x4d\x01\x00\x00\x00", many)},
		{unknown(slices.Repeat([]string{"\xa0\x06\x87\x00"}, many)...), strings.Repeat("\xa0\x06\x87\x00", many)},
	} {
		b, e := canon.Encode(s, 0, c.x)
		if string(b) != c.want || e != api.Fine {
			t.Errorf("P16.1: Encode of %d: %d bytes, %v, not %d", many, len(b), e, len(c.want))
		}
		if n, e := canon.Size(s, 0, c.x); n != len(c.want) || e != api.Fine {
			t.Errorf("P16.1: Size of %d: %d, %v, not %d", many, n, e, len(c.want))
		}
		if !canon.Is(s, 0, b) {
			t.Errorf("P16.2: Is of %d bytes", len(b))
		}
	}
}

// R6: nothing is kept: what is done to a schema, a meaning or bytes between calls is seen.
func TestNothingIsKept(t *testing.T) {
	s, x := api.Schema{{Name: "m", Fields: []api.Field{{Name: "i", Number: 1, Kind: api.Uint32}}}}, values(words(1, 1))
	for range 2 {
		f := &s[0].Fields[0]
		encode(t, s, 0, x, "\x08\x01", api.Fine)
		is(t, s, 0, "\x08\x01", true)
		f.Repeated = true
		encode(t, s, 0, x, "\x0a\x01\x01", api.Fine)
		value(t, s, *f, x.Values[0], "\x0a\x01\x01", api.Fine)
		is(t, s, 0, "\x08\x01", false)
		f.Kind = api.Float
		encode(t, s, 0, x, "\x0a\x04\x01\x00\x00\x00", api.Fine)
		x.Values[0].Words[0] = 2
		encode(t, s, 0, x, "\x0a\x04\x02\x00\x00\x00", api.Fine)
		f.Number = 2
		encode(t, s, 0, x, "", api.Form)
		f.Name = ""
		encode(t, s, 0, x, "", api.Ill)
		value(t, s, *f, x.Values[0], "", api.Ill)
		s[0].Fields[0], x.Values[0].Words[0] = api.Field{Name: "i", Number: 1, Kind: api.Uint32}, 1
	}
}

// P16.1, P16.2: the chapter's example, and those of the whole.
func TestExamples(t *testing.T) {
	f := api.Field{Name: "f", Number: 1, Kind: api.Uint32, Repeated: true}
	s := api.Schema{{Name: "m", Fields: []api.Field{f}}}
	x := values(words(1, 1, 300))
	encode(t, s, 0, x, string([]byte{10, 3, 1, 172, 2}), api.Fine)
	value(t, s, f, x.Values[0], string([]byte{10, 3, 1, 172, 2}), api.Fine)
	is(t, s, 0, string([]byte{10, 3, 1, 172, 2}), true)
	is(t, s, 0, string([]byte{8, 1, 8, 172, 2}), false)
	s = api.Schema{{Name: "m", Fields: []api.Field{{Name: "a", Number: 1, Kind: api.Sub}, {Name: "b", Number: 2, Kind: api.Uint32}}}}
	x = values(subs(1, values(words(2, 5))), words(2, 1))
	y, e := tree.Of(s, 0, []byte{16, 129, 0, 10, 2, 16, 5}, 64)
	if show(y) != show(x) || e != api.Fine {
		t.Errorf("example 1: %s, %v", show(y), e)
	}
	encode(t, s, 0, y, string([]byte{10, 2, 16, 5, 16, 1}), api.Fine)
	is(t, s, 0, string([]byte{16, 129, 0, 10, 2, 16, 5}), false)
	is(t, s, 0, string([]byte{10, 2, 16, 5, 16, 1}), true)
	encode(t, s, 0, tree.Msg{Values: x.Values, Unknown: []string{"\x18\x07"}}, string([]byte{10, 2, 16, 5, 16, 1, 24, 7}), api.Fine)
}
