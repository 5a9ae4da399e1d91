package norm_test

import (
	"math"
	"slices"
	"strconv"
	"strings"
	"testing"

	"darning/api"
	"darning/canon"
	"darning/kind"
	"darning/norm"
	"darning/record"
	"darning/tree"
	"darning/valid"
)

// messages is a schema of three, whose fields stand in no order: 0 has fields of all kinds, by their kinds' numbers one of each, and 30 on Repeated ones, every other one Packed; 1 has the same numbers for fields of unlike sorts; 2 has none.
func messages() api.Schema {
	m := api.Message{Name: "m"}
	for k := api.Sub; k >= api.Int32; k-- {
		m.Fields = append(m.Fields,
			api.Field{Name: "l" + strconv.Itoa(k), Number: 30 + k, Kind: k, Repeated: true, Packed: k%2 == 0 && k < api.String},
			api.Field{Name: "f" + strconv.Itoa(k), Number: k, Kind: k, Of: k / api.Sub})
	}
	return api.Schema{m,
		{Name: "n", Fields: []api.Field{
			{Name: "z", Number: api.MaxNumber, Kind: api.Fixed32},
			{Name: "y", Number: 2048, Kind: api.Bytes},
			{Name: "n", Number: 2, Kind: api.Sub, Of: 1},
			{Name: "x", Number: 2047, Kind: api.Sint64, Repeated: true, Packed: true},
			{Name: "m", Number: 4, Kind: api.Sub},
			{Name: "d", Number: 1, Kind: api.Double, Repeated: true},
			{Name: "e", Number: 5, Kind: api.Sub, Repeated: true, Of: 2},
			{Name: "s", Number: 3, Kind: api.String},
		}},
		{Name: "e"},
	}
}

// ills are schemas that aren't right.
func ills() []api.Schema {
	double, of, name := messages(), messages(), messages()
	double[1].Fields[2].Number = 5
	of[0].Fields[0].Of = 3
	name[2].Name = "1"
	return []api.Schema{nil, {}, make(api.Schema, 1), make(api.Schema, 101), double, of, name}
}

// showSchema as a text.
func showSchema(s api.Schema) string {
	var b strings.Builder
	for _, m := range s {
		b.WriteString(m.Name + ":")
		for _, f := range m.Fields {
			b.WriteString(f.Name + " " + strconv.Itoa(f.Number) + " " + strconv.Itoa(f.Kind) + strconv.FormatBool(f.Repeated) + strconv.FormatBool(f.Packed) + strconv.Itoa(f.Of) + ",")
		}
	}
	return b.String()
}

// varint is a word as a minimal varint.
func varint(w uint64) string {
	b := ""
	for ; w >= 128; w /= 128 {
		b += string([]byte{byte(128 + w%128)})
	}
	return b + string([]byte{byte(w)})
}

// little is a word's lowest bytes, the lowest first.
func little(w uint64, count int) string {
	b := ""
	for range count {
		b += string([]byte{byte(w % 256)})
		w /= 256
	}
	return b
}

// tag is a record's.
func tag(number, wire int) string { return varint(8*uint64(number) + uint64(wire)) }

// long is a record of wire type 2.
func long(number int, value string) string {
	return tag(number, 2) + varint(uint64(len(value))) + value
}

// word tells a canonical word's wire type and bytes.
func word(k int, w uint64) (int, string) {
	switch k {
	case api.Fixed32, api.Sfixed32, api.Float:
		return 5, little(w, 4)
	case api.Fixed64, api.Sfixed64, api.Double:
		return 1, little(w, 8)
	}
	return 0, varint(w)
}

// canonical tells by the document what a meaning's canonical bytes are.
func canonical(s api.Schema, message int, x tree.Msg) string {
	b := ""
	for _, v := range x.Values {
		b += records(s, s[message], v)
	}
	return b + strings.Join(x.Unknown, "")
}

// records tells by the document what a value's are.
func records(s api.Schema, m api.Message, v tree.Value) string {
	f := m.Fields[slices.IndexFunc(m.Fields, func(f api.Field) bool { return f.Number == v.Number })]
	b, all := "", ""
	for _, w := range v.Words {
		wire, bytes := word(f.Kind, w)
		b += tag(f.Number, wire) + bytes
		all += bytes
	}
	for _, text := range v.Texts {
		b += long(f.Number, text)
	}
	for _, x := range v.Subs {
		b += long(f.Number, canonical(s, f.Of, x))
	}
	if f.Repeated && len(v.Words) > 0 {
		return long(f.Number, all)
	}
	return b
}

// field tells by the chapter's words which records of a number a meaning's normal form has.
func field(s api.Schema, root int, x tree.Msg, number int) string {
	for _, v := range x.Values {
		if v.Number == number {
			return records(s, s[root], v)
		}
	}
	b := ""
	for _, u := range x.Unknown {
		if r, _ := record.Next([]byte(u), 0); r.Number == number {
			b += u
		}
	}
	return b
}

// first tells by the chapter's words where two texts differ.
func first(a, b string) int {
	for i := range min(len(a), len(b)) {
		if a[i] != b[i] {
			return i
		}
	}
	if a == b {
		return -1
	}
	return min(len(a), len(b))
}

// dice are numbers that look like chance, and are the same each time.
type dice uint64

// under tells the next one, from 0 to n - 1.
func (d *dice) under(n int) int {
	*d = *d*6364136223846793005 + 1442695040888963407
	return int(uint64(*d) >> 33 % uint64(n))
}

// word that is canonical, of a kind: mostly one at an edge.
func (d *dice) word(k int) uint64 {
	l := []uint64{0, 1, 2, 127, 128, 300, 1<<14 - 1, 1 << 14, 1<<31 - 1, 1 << 31, 1<<32 - 1, 1 << 32, 1<<63 - 1, 1 << 63, 1<<64 - 1, uint64(*d)}
	w, _ := kind.Canon(k, l[d.under(len(l))])
	return w
}

// text that is right, of a code point or two, or of more than a varint's piece can count.
func (d *dice) text() string {
	l := []string{"", "a", "\x00", "é", "ab", strings.Repeat("x", 127), strings.Repeat("y", 128)}
	return l[d.under(len(l))]
}

// strangers are records that no message's field has the number of, minimal and not.
func strangers() []string {
	return []string{"\xa0\x06\x07", "\xa2\x06\x01a", "\xa2\x06\x00", "\xa5\x06\x01\x00\x00\x00", "\x91\x01\x01\x02\x03\x04\x05\x06\x07\x08", "\xa0\x86\x00\x07", "\x98\x06\x87\x80\x00", "\xa2\x06\x82\x00ab", "\x90\x01\x01"}
}

// numbers are those of the fields of all messages, of strangers, and of none.
func numbers() []int {
	l := []int{math.MinInt, -1, 0, 18, 48, 99, 100, 2047, 2048, api.MaxNumber, api.MaxNumber + 1, 1<<32 + 1, math.MaxInt}
	for k := api.Int32; k <= api.Sub; k++ {
		l = append(l, k, 30+k)
	}
	return l
}

// meaning of a message, of up to so many levels.
func (d *dice) meaning(s api.Schema, message, levels int) tree.Msg {
	var x tree.Msg
	fields := slices.Clone(s[message].Fields)
	slices.SortFunc(fields, func(a, b api.Field) int { return a.Number - b.Number })
	for _, f := range fields {
		if d.under(6) == 0 && (f.Kind != api.Sub || levels > 0) {
			x.Values = append(x.Values, d.value(s, f, levels))
		}
	}
	for range d.under(3) {
		x.Unknown = append(x.Unknown, strangers()[d.under(len(strangers()))])
	}
	return x
}

// value of a field.
func (d *dice) value(s api.Schema, f api.Field, levels int) tree.Value {
	v, count := tree.Value{Number: f.Number}, 1
	if f.Repeated {
		count += d.under(4)
	}
	for range count {
		switch f.Kind {
		case api.Sub:
			v.Subs = append(v.Subs, d.meaning(s, f.Of, d.under(levels)))
		case api.String:
			v.Texts = append(v.Texts, d.text())
		case api.Bytes:
			v.Texts = append(v.Texts, d.text()+"\xff"[:d.under(2)])
		default:
			v.Words = append(v.Words, d.word(f.Kind))
		}
	}
	return v
}

// pool is a message's meanings: of nothing, and of all sorts.
func pool(s api.Schema, message, count int) []tree.Msg {
	d := dice(message)
	l := []tree.Msg{{}, {Unknown: []string{"\xa0\x06\x07"}}}
	for i := len(l); i < count; i++ {
		l = append(l, d.meaning(s, message, i%5))
	}
	return l
}

// loose is a word as a varint, minimal or not.
func (d *dice) loose(w uint64) string {
	b := []byte(varint(w))
	for d.under(4) == 0 && len(b) < 10 {
		b[len(b)-1] |= 128
		b = append(b, 0)
	}
	return string(b)
}

// record of wire type 2, with a tag and a length that are minimal or not.
func (d *dice) record(number int, value string) string {
	return d.loose(8*uint64(number)+2) + d.loose(uint64(len(value))) + value
}

// bytes tell a wire type, and value's bytes of it that mean a canonical word.
func (d *dice) bytes(k int, w uint64) (int, string) {
	wire, b := word(k, w)
	switch {
	case wire == 0 && (k == api.Int32 || k == api.Enum || k == api.Uint32 || k == api.Sint32):
		b = d.loose(w%(1<<32) + uint64(d.under(2)*d.under(1<<30))<<32)
	case wire == 0 && k == api.Bool && w == 1:
		b = d.loose([]uint64{1, 1, 2, 1 << 32, 1 << 63}[d.under(5)])
	case wire == 0:
		b = d.loose(w)
	}
	return wire, b
}

// number's record, of a word by itself.
func (d *dice) number(f api.Field, w uint64) string {
	wire, b := d.bytes(f.Kind, w)
	return d.loose(8*uint64(f.Number)+uint64(wire)) + b
}

// runs are records of a Repeated number's words: by themselves, and some together; some of none, too.
func (d *dice) runs(f api.Field, l []uint64) []string {
	var all []string
	for len(l) > 0 {
		if d.under(2) == 0 {
			all, l = append(all, d.number(f, l[0])), l[1:]
			continue
		}
		run, count := "", d.under(len(l)+1)
		for _, w := range l[:count] {
			_, b := d.bytes(f.Kind, w)
			run += b
		}
		all, l = append(all, d.record(f.Number, run)), l[count:]
	}
	return all
}

// parts are records of the kind Sub that mean one meaning: one, or some together.
func (d *dice) parts(s api.Schema, f api.Field, x tree.Msg) []string {
	var all []string
	l := d.scribble(s, f.Of, x)
	for !f.Repeated && d.under(2) == 0 {
		count := d.under(len(l) + 1)
		all, l = append(all, d.record(f.Number, strings.Join(l[:count], ""))), l[count:]
	}
	return append(all, d.record(f.Number, strings.Join(l, "")))
}

// ways are records that mean a value, some of them perhaps replaced by later ones.
func (d *dice) ways(s api.Schema, f api.Field, v tree.Value) []string {
	var all []string
	old := !f.Repeated && d.under(3) == 0
	if f.Repeated {
		all = d.runs(f, v.Words)
	} else if len(v.Words) > 0 {
		if old {
			all = append(all, d.number(f, d.word(f.Kind)))
		}
		all = append(all, d.number(f, v.Words[0]))
	}
	for _, text := range v.Texts {
		if old {
			all = append(all, d.record(f.Number, d.text()))
		}
		all = append(all, d.record(f.Number, text))
	}
	for _, x := range v.Subs {
		all = append(all, d.parts(s, f, x)...)
	}
	return all
}

// scribble tells records that mean a meaning, in one of many ways.
func (d *dice) scribble(s api.Schema, message int, x tree.Msg) []string {
	lists := [][]string{x.Unknown}
	for _, f := range s[message].Fields {
		i := slices.IndexFunc(x.Values, func(v tree.Value) bool { return v.Number == f.Number })
		switch {
		case i >= 0:
			lists = append(lists, d.ways(s, f, x.Values[i]))
		case f.Repeated && f.Kind < api.String && d.under(9) == 0:
			// A run of no words says nothing.
			lists = append(lists, []string{d.record(f.Number, "")})
		}
	}
	return d.mix(lists)
}

// mix lists into one, in which the things of each stand in order.
func (d *dice) mix(lists [][]string) []string {
	var all []string
	for {
		lists = slices.DeleteFunc(lists, func(l []string) bool { return len(l) == 0 })
		if len(lists) == 0 {
			return all
		}
		i := d.under(len(lists))
		all, lists[i] = append(all, lists[i][0]), lists[i][1:]
	}
}

// told checks bytes that were told, that those handed in, and what lies behind them in memory, are as they were then, and that bytes told anew are others.
func told(t *testing.T, name, b, want string, why api.Code, ask func(b []byte) ([]byte, api.Code)) {
	t.Helper()
	whole := []byte(b + "behind")
	c, e := ask(whole[:len(b)])
	if string(c) != want || e != why {
		t.Fatalf("%s of %q: %q, %v, not %q, %v", name, b, c, e, want, why)
	}
	for i := range c {
		c[i]++
	}
	if string(whole) != b+"behind" {
		t.Fatalf("R4: %s: %q was changed to %q", name, b+"behind", whole)
	}
	if c, _ = ask(whole[:len(b)]); string(c) != want {
		t.Fatalf("R4: %s: what it told was changed, and so was what it told behind that: %q, not %q", name, c, want)
	}
}

// form checks Form, Is and First.
func form(t *testing.T, s api.Schema, root int, b string, d int, want string, why api.Code) {
	t.Helper()
	told(t, "P18.1: Form", b, want, why, func(b []byte) ([]byte, api.Code) { return norm.Form(s, root, b, d) })
	in, place := []byte(b), 0
	if why == api.Fine {
		place = first(b, want)
	}
	if is := norm.Is(s, root, in, d); is != (why == api.Fine && b == want) {
		t.Fatalf("P18.1: Is of %q, %d within %d: %t", b, root, d, is)
	}
	if n, e := norm.First(s, root, in, d); n != place || e != why {
		t.Fatalf("P18.2: First of %q, %d within %d: %d, %v, not %d, %v", b, root, d, n, e, place, why)
	}
	if string(in) != b {
		t.Fatalf("R4: Is, or First: %q was changed to %q", b, in)
	}
}

// only checks Field.
func only(t *testing.T, s api.Schema, root int, b string, d, number int, want string, why api.Code) {
	t.Helper()
	told(t, "P18.2: Field "+strconv.Itoa(number), b, want, why, func(b []byte) ([]byte, api.Code) { return norm.Field(s, root, b, d, number) })
}

// same checks Same.
func same(t *testing.T, s api.Schema, root int, a, b string, d int, want bool, why api.Code) {
	t.Helper()
	x, y := []byte(a), []byte(b)
	if ok, e := norm.Same(s, root, x, y, d); ok != want || e != why {
		t.Fatalf("P18.1: Same of %q and %q, %d within %d: %t, %v, not %t, %v", a, b, root, d, ok, e, want, why)
	}
	if string(x) != a || string(y) != b {
		t.Fatalf("R4: Same: %q and %q were changed to %q and %q", a, b, x, y)
	}
}

// P18.1, P18.2, P18.3: meanings of all sorts, each in some of the many ways in which bytes may mean it, within just as many levels as it has, and within fewer.
func TestForm(t *testing.T) {
	s := messages()
	for root := range s {
		d, unlike := dice(root), 0
		for _, x := range pool(s, root, 450) {
			want, levels := canonical(s, root, x), tree.Depth(x)
			form(t, s, root, want, levels, want, api.Fine)
			for range 2 {
				b := strings.Join(d.scribble(s, root, x), "")
				form(t, s, root, b, levels, want, api.Fine)
				same(t, s, root, b, want, levels, true, api.Fine)
				if levels > 0 {
					form(t, s, root, b, levels-1, "", api.Depth)
					same(t, s, root, "", b, levels-1, false, api.Depth)
				}
				if len(want) > 2*len(b) {
					t.Fatalf("P18.3: %q has a normal form of %d bytes", b, len(want))
				}
				if b != want {
					unlike++
				}
			}
		}
		if root < 2 && unlike < 600 {
			t.Errorf("only %d messages %d that aren't normal", unlike, root)
		}
	}
	if showSchema(s) != showSchema(messages()) {
		t.Error("R4: the schema was changed")
	}
}

// P18.2: the records of all numbers, in meanings of all sorts.
func TestField(t *testing.T) {
	s := messages()
	for root := range s {
		d, some := dice(root), 0
		for _, x := range pool(s, root, 90) {
			b := strings.Join(d.scribble(s, root, x), "")
			for _, number := range numbers() {
				want := field(s, root, x, number)
				only(t, s, root, b, 5, number, want, api.Fine)
				if want != "" {
					some++
				}
			}
			if tree.Depth(x) > 0 {
				only(t, s, root, b, 0, 1, "", api.Depth)
			}
		}
		if some < 50 {
			t.Errorf("only %d fields that are there in messages %d", some, root)
		}
	}
}

// P18.1, P18.3: pairs of messages mean the same just if their normal forms are the same.
func TestSame(t *testing.T) {
	s, yes := messages(), 0
	for root := range s {
		d, l := dice(root), pool(s, root, 250)
		for i, x := range l {
			a := strings.Join(d.scribble(s, root, x), "")
			for _, y := range []tree.Msg{x, {}, l[(7*i+3)%len(l)], l[(31*i+8)%len(l)], changed(x)} {
				want := canonical(s, root, x) == canonical(s, root, y)
				if want != tree.Same(x, y) {
					t.Fatalf("P18.3: %v and %v", x, y)
				}
				if want {
					yes++
				}
				same(t, s, root, a, strings.Join(d.scribble(s, root, y), ""), 5, want, api.Fine)
			}
		}
	}
	if yes < 700 {
		t.Errorf("only %d pairs mean the same", yes)
	}
}

// changed is a meaning with one thing less, or with the order of two unknown records changed.
func changed(x tree.Msg) tree.Msg {
	c := tree.Copy(x)
	switch {
	case len(c.Unknown) > 1:
		c.Unknown[0], c.Unknown[1] = c.Unknown[1], c.Unknown[0]
	case len(c.Values) > 0:
		c.Values = c.Values[1:]
	}
	return c
}

// asked checks all calls of bytes, valid or not, by what valid.Check tells of them, and by what they mean.
func asked(t *testing.T, s api.Schema, root int, b string, d int) api.Code {
	t.Helper()
	_, e := valid.Check(s, root, []byte(b), d)
	x, _ := tree.Of(s, root, []byte(b), d)
	want := canonical(s, root, x)
	form(t, s, root, b, d, want, e)
	for _, number := range []int{2, 3, 17, 100} {
		only(t, s, root, b, d, number, field(s, root, x, number), e)
	}
	same(t, s, root, b, want, d, e == api.Fine, e)
	return e
}

// P18.1, P18.2: all bytes of up to five of these; of those that are valid the normal form is what canon tells of the meaning.
func TestAllBytes(t *testing.T) {
	s := api.Schema{{Name: "m", Fields: []api.Field{{Name: "l", Number: 3, Kind: api.Bool, Repeated: true}, {Name: "b", Number: 1, Kind: api.Bool}, {Name: "m", Number: 2, Kind: api.Sub}}}}
	count := map[api.Code]int{}
	l := []string{""}
	for range 6 {
		var more []string
		for _, b := range l {
			e := asked(t, s, 0, b, 2)
			count[e]++
			x, _ := tree.Of(s, 0, []byte(b), 2)
			c, _ := canon.Encode(s, 0, x)
			if n, _ := norm.Form(s, 0, []byte(b), 2); string(n) != string(c) {
				t.Fatalf("T4: Form of %q: %q, not %q", b, n, c)
			}
			for _, last := range []string{"\x00", "\x01", "\x02", "\x08", "\x12", "\x1a", "\x80"} {
				more = append(more, b+last)
			}
		}
		l = more
	}
	for _, why := range []api.Code{api.Fine, api.Short, api.Tag} {
		if count[why] < 50 {
			t.Errorf("only %d that tell %v", count[why], why)
		}
	}
}

// P18.1, P18.2: messages with one byte more, one less, or another one, and with one thing behind the other.
func TestChanged(t *testing.T) {
	s, d, count := messages(), dice(3), map[api.Code]int{}
	for root := range s {
		for i, x := range pool(s, root, 25) {
			b := strings.Join(d.scribble(s, root, x), "")
			for range 6 {
				i := d.under(len(b) + 1)
				j := min(len(b), i+1)
				more := string([]byte{byte([]int{0, 1, 2, 128, 255, d.under(256)}[d.under(6)])})
				for _, c := range []string{b[:i] + more + b[i:], b[:i] + b[j:], b[:i] + more + b[j:], b[i:] + b[:i], b[:i]} {
					count[asked(t, s, root, c, 64)]++
				}
			}
			count[asked(t, s, root, b+b, (i+2)%5)]++
		}
	}
	for _, why := range []api.Code{api.Fine, api.Short, api.Over, api.Tag, api.Wire, api.Utf, api.Depth} {
		if count[why] < 3 {
			t.Errorf("only %d that tell %v", count[why], why)
		}
	}
}

// P18.1, P18.2: messages written out, with their normal forms.
func TestWritten(t *testing.T) {
	s := messages()
	const minus = "\xff\xff\xff\xff\xff\xff\xff\xff\xff\x01"
	for _, c := range []struct {
		b, want string
		place   int
	}{
		{"", "", -1},
		// One that isn't Repeated: the last one wins, a value 0 as well; tags and varints become minimal, words canonical.
		{"\x08\x00", "\x08\x00", -1}, {"\x08\x01\x08\x00", "\x08\x00", 1}, {"\x88\x00\x81\x00", "\x08\x01", 0}, {"\x08\xff\xff\xff\xff\x0f", "\x08" + minus, 5}, {"\x18\xff\xff\xff\xff\xff\x01", "\x18\xff\xff\xff\xff\x0f", 5}, {"\x38\x02", "\x38\x01", 1}, {"\x38\x80\x00", "\x38\x00", 1},
		{"\x4d\x01\x00\x00\x00\xcd\x00\x02\x00\x00\x00", "\x4d\x02\x00\x00\x00", 1}, {"\xe1\x80\x00\x01\x00\x00\x00\x00\x00\x00\x80", "\x61\x01\x00\x00\x00\x00\x00\x00\x80", 0},
		// By the fields' numbers, and unknown records behind all, as they are, in order.
		{"\x10\x01\x08\x01", "\x08\x01\x10\x01", 0}, {"\xa0\x86\x00\x87\x00\x08\x01\x90\x01\x01", "\x08\x01\xa0\x86\x00\x87\x00\x90\x01\x01", 0}, {"\xa0\x06\x07\xa0\x06\x07", "\xa0\x06\x07\xa0\x06\x07", -1}, {"\xfa\x01\x01\x01\x08\x01", "\x08\x01\xfa\x01\x01\x01", 0},
		// Words of Repeated ones: all in one record, none for no words.
		{"\xf8\x01\x01", "\xfa\x01\x01\x01", 0}, {"\xfa\x01\x02\x01\x02\xfa\x01\x00\xf8\x01\x83\x00", "\xfa\x01\x03\x01\x02\x03", 2}, {"\xfa\x01\x00", "", 0}, {"\x08\x01\xfa\x01\x00\xfa\x01\x80\x00", "\x08\x01", 2}, {"\xfa\x01\x00\xa0\x06\x07", "\xa0\x06\x07", 0},
		{"\xf8\x01\xff\xff\xff\xff\x0f", "\xfa\x01\x0a" + minus, 0}, {"\xaa\x02\x04\x02\x00\x80\x01\xa8\x02\x05", "\xaa\x02\x04\x01\x00\x01\x01", 3},
		{"\xbd\x02\x01\x00\x00\x00\xba\x02\x04\x02\x00\x00\x00", "\xba\x02\x08\x01\x00\x00\x00\x02\x00\x00\x00", 0}, {"\xd1\x02\x01\x00\x00\x00\x00\x00\x00\x00", "\xd2\x02\x08\x01\x00\x00\x00\x00\x00\x00\x00", 0},
		// Texts: an empty one is one.
		{"\x7a\x00", "\x7a\x00", -1}, {"\x7a\x01a\x7a\x00", "\x7a\x00", 1}, {"\x7a\x81\x00a", "\x7a\x01a", 1}, {"\x82\x01\x01\xff\x82\x81\x00\x01\xfe", "\x82\x01\x01\xfe", 3}, {"\xea\x02\x01b\xea\x02\x00\xea\x82\x00\x01a", "\xea\x02\x01b\xea\x02\x00\xea\x02\x01a", 8},
		// Messages: put one behind the other, or each by itself; empty ones are some.
		{"\x8a\x01\x00", "\x8a\x01\x00", -1}, {"\x8a\x01\x00\x8a\x01\x80\x00", "\x8a\x01\x00", 3}, {"\x8a\x01\x03\x1a\x01a\x08\x01\x8a\x01\x03\x1a\x01b", "\x08\x01\x8a\x01\x03\x1a\x01b", 0}, {"\x8a\x01\x03\x1a\x01b", "\x8a\x01\x03\x1a\x01b", -1},
		{"\x8a\x01\x02\x12\x00\x8a\x01\x06\x12\x04\x12\x02\x12\x00", "\x8a\x01\x06\x12\x04\x12\x02\x12\x00", 2}, {"\x8a\x01\x04\x12\x02\x30\x07\x8a\x01\x06\x12\x04\x1a\x00\x30\x08", "\x8a\x01\x08\x12\x06\x1a\x00\x30\x07\x30\x08", 2},
		{"\xfa\x02\x02\x08\x01\xfa\x02\x00\xfa\x02\x04\x08\x01\x08\x02", "\xfa\x02\x02\x08\x01\xfa\x02\x00\xfa\x02\x02\x08\x02", 10},
	} {
		form(t, s, 0, c.b, 4, c.want, api.Fine)
		if n, _ := norm.First(s, 0, []byte(c.b), 4); n != c.place {
			t.Errorf("P18.2: First of %q: %d, not %d", c.b, n, c.place)
		}
	}
}

// edges are a number's neighbours, and the ends.
func edges(size int) []int {
	return []int{math.MinInt, -2, -1, 0, size - 1, size, size + 1, 255, 256, math.MaxInt}
}

// P18.1, P18.2: schemas, messages' numbers, depths and bytes, right and not; what isn't right in the first message is told first.
func TestErrors(t *testing.T) {
	count := map[api.Code]int{}
	for _, s := range append([]api.Schema{messages()}, ills()...) {
		for _, root := range edges(len(messages())) {
			for _, d := range edges(65) {
				for _, b := range []string{"", "\x08", "\x7a\x01\xff", "\x2a\x00", "\xfa\x02\x02\x08\x01", "\xa0\x06\x07"} {
					_, e := valid.Check(s, root, []byte(b), d)
					want := ""
					if e == api.Fine {
						want = b
					}
					count[e]++
					form(t, s, root, b, d, want, e)
					same(t, s, root, b, b, d, e == api.Fine, e)
					only(t, s, root, b, d, 101, "", e)
				}
			}
		}
	}
	for _, why := range []api.Code{api.Fine, api.Ill, api.Arg, api.Short, api.Utf, api.Wire, api.Depth} {
		if count[why] < 1 {
			t.Errorf("none that tells %v", why)
		}
	}
	wrongs := map[string]api.Code{"\x08": api.Short, "\x7a\x01\xff": api.Utf, "\x0d\x01\x01\x01\x01": api.Wire, "\x00": api.Tag, "\xfa\x02\x02\xfa\x02": api.Short, "\xfa\x02\x03\xfa\x02\x00": api.Depth}
	for a, why := range wrongs {
		for b, other := range wrongs {
			same(t, messages(), 0, a, b, 1, false, why)
			same(t, messages(), 0, "\x08\x01", b, 1, false, other)
			same(t, messages(), 0, a, "\x08\x01", 1, false, why)
		}
	}
}

// chain is a message in so many levels of a field, with something behind each; the heads are reckoned from inside, and written from outside.
func chain(number int, inner string, levels int, behind string) string {
	heads, size := []string{}, len(inner)
	for range levels {
		head := tag(number, 2) + varint(uint64(size))
		heads = append(heads, head)
		size += len(head) + len(behind)
	}
	slices.Reverse(heads)
	return strings.Join(heads, "") + inner + strings.Repeat(behind, levels)
}

// P18.1, P18.2, R1: as many levels as there may be, with long messages innermost, and with pieces of messages at each level.
func TestDeep(t *testing.T) {
	s := messages()
	for levels := range 66 {
		one, two := chain(47, "\x10\x01\x08\x81\x00", levels, ""), chain(2, "\x30\x01\x1a\x01a", levels, "\x1a\x81\x00b")
		for _, d := range []int{levels - 1, levels, levels + 1, 64} {
			if d < 0 || d > 64 {
				continue
			}
			why, want, other := api.Depth, "", ""
			if d >= levels {
				why, want, other = api.Fine, chain(47, "\x08\x01\x10\x01", levels, ""), chain(2, "\x1a\x01a\x30\x01", levels, "\x1a\x01b")
			}
			form(t, s, 0, one, d, want, why)
			form(t, s, 1, two, d, other, why)
			only(t, s, 1, two, d, 19, "", why)
			same(t, s, 1, two, other, d, d >= levels, why)
		}
	}
	// A merged piece at each level.
	b, want := "", ""
	for range 64 {
		b, want = long(2, b)+long(2, "\x30\x07"), long(2, want+"\x30\x07")
	}
	form(t, s, 1, b, 64, want, api.Fine)
	only(t, s, 1, b, 64, 2, want, api.Fine)
	// A text of all sizes that matter to the lengths ahead of it, within many levels.
	for _, size := range []int{0, 1, 126, 127, 128, 1<<14 - 130, 1<<14 - 1, 1 << 14, 1 << 20} {
		text := long(15, strings.Repeat("x", size))
		form(t, s, 0, chain(47, "\x08\x01"+text+"\x08\x02", 64, ""), 64, chain(47, "\x08\x02"+text, 64, ""), api.Fine)
	}
}

// greatest is a schema of as many messages and fields as there may be.
func greatest() api.Schema {
	var s api.Schema
	for i := range api.MaxMessages {
		m := api.Message{Name: "m" + strconv.Itoa(i)}
		for j := range api.MaxFields {
			m.Fields = append(m.Fields, api.Field{Name: "f" + strconv.Itoa(j), Number: api.MaxFields - j, Kind: api.Sub, Of: (i + 1) % api.MaxMessages})
		}
		s = append(s, m)
	}
	return s
}

// R1: very many records of all sorts.
func TestMany(t *testing.T) {
	const many = 1 << 15
	s := messages()
	for _, c := range []struct {
		b, want string
		number  int
	}{
		{strings.Repeat("\x08\x01", many) + "\x08\x02", "\x08\x02", 1},
		{strings.Repeat("\xf8\x81\x00\x01", many), "\xfa\x01" + varint(many) + strings.Repeat("\x01", many), 31},
		{strings.Repeat("\xaa\x02\x02\x02\x00", many), "\xaa\x02" + varint(2*many) + strings.Repeat("\x01\x00", many), 37},
		{long(44, strings.Repeat("\x01\x00\x00\x00\x00\x00\x00\x00", many)), long(44, strings.Repeat("\x01\x00\x00\x00\x00\x00\x00\x00", many)), 44},
		{strings.Repeat("\x7a\x01a", many), "\x7a\x01a", 15},
		{strings.Repeat("\xea\x02\x81\x00a", many), strings.Repeat("\xea\x02\x01a", many), 45},
		{strings.Repeat("\x8a\x01\x02\x30\x07", many), "\x8a\x01" + varint(2*many) + strings.Repeat("\x30\x07", many), 17},
		{strings.Repeat("\xfa\x02\x03\x08\x81\x00", many), strings.Repeat("\xfa\x02\x02\x08\x01", many), 47},
		{strings.Repeat("\xa0\x06\x87\x00", many), strings.Repeat("\xa0\x06\x87\x00", many), 100},
	} {
		form(t, s, 0, c.b, 1, c.want, api.Fine)
		only(t, s, 0, c.b, 1, c.number, c.want, api.Fine)
		only(t, s, 0, c.b, 1, c.number+1, "", api.Fine)
		same(t, s, 0, c.b, c.want, 1, true, api.Fine)
	}
	b, first, rest := "", "", ""
	for n := 1 << 12; n > 0; n-- {
		b += tag(n, 2) + "\x00"
		if n > api.MaxFields {
			rest += tag(n, 2) + "\x00"
		} else {
			first = tag(n, 2) + "\x00" + first
		}
	}
	form(t, greatest(), 0, b, 1, first+rest, api.Fine)
}

// R6: nothing is kept: what is done to a schema, or to bytes, between calls is seen.
func TestNothingIsKept(t *testing.T) {
	s := api.Schema{{Name: "m", Fields: []api.Field{{Name: "i", Number: 1, Kind: api.Uint32}}}}
	for range 2 {
		f := &s[0].Fields[0]
		form(t, s, 0, "\x08\x01\x08\x02", 0, "\x08\x02", api.Fine)
		only(t, s, 0, "\x08\x01\x08\x02", 0, 1, "\x08\x02", api.Fine)
		f.Repeated = true
		form(t, s, 0, "\x08\x01\x08\x02", 0, "\x0a\x02\x01\x02", api.Fine)
		only(t, s, 0, "\x08\x01\x08\x02", 0, 1, "\x0a\x02\x01\x02", api.Fine)
		same(t, s, 0, "\x08\x01\x08\x02", "\x08\x02", 0, false, api.Fine)
		f.Kind = api.Bool
		form(t, s, 0, "\x08\x01\x08\x02", 0, "\x0a\x02\x01\x01", api.Fine)
		f.Number = 2
		form(t, s, 0, "\x08\x01\x08\x82\x00", 0, "\x08\x01\x08\x82\x00", api.Fine)
		f.Name = ""
		form(t, s, 0, "\x08\x01\x08\x02", 0, "", api.Ill)
		s[0].Fields[0] = api.Field{Name: "i", Number: 1, Kind: api.Uint32}
	}
	a := []byte("\x08\x01")
	for w := range 3 {
		a[1] = byte(w)
		if c, e := norm.Form(s, 0, a, 0); string(c) != string(a) || e != api.Fine {
			t.Errorf("R6: Form of %q: %q, %v", a, c, e)
		}
	}
}

// P18.1, P18.2, R3, R4: no bytes are a message in its normal form; what is told is in new memory, whatever it is made of.
func TestMemory(t *testing.T) {
	s := messages()
	for _, a := range [][]byte{nil, {}} {
		for _, b := range [][]byte{nil, {}} {
			if ok, e := norm.Same(s, 0, a, b, 0); !ok || e != api.Fine {
				t.Errorf("P18.1: Same of no bytes: %t, %v", ok, e)
			}
		}
		if c, e := norm.Form(s, 0, a, 0); len(c) != 0 || e != api.Fine || !norm.Is(s, 0, a, 0) {
			t.Errorf("P18.1: Form of no bytes: %q, %v", c, e)
		}
		if n, e := norm.First(s, 0, a, 0); n != -1 || e != api.Fine {
			t.Errorf("P18.2: First of no bytes: %d, %v", n, e)
		}
		if c, e := norm.Field(s, 0, a, 0, 1); len(c) != 0 || e != api.Fine {
			t.Errorf("P18.2: Field of no bytes: %q, %v", c, e)
		}
	}
	for _, b := range []string{"\x08\x01", "\x7a\x01a", "\xfa\x01\x01\x01", "\xea\x02\x01a", "\x8a\x01\x02\x30\x07", "\xfa\x02\x02\x08\x01", "\xa0\x06\x07"} {
		r, _ := record.Next([]byte(b), 0)
		form(t, s, 0, b, 1, b, api.Fine)
		only(t, s, 0, b, 1, r.Number, b, api.Fine)
	}
}

// P18.1, P18.2: the chapter's example, and those of the whole.
func TestExamples(t *testing.T) {
	s := api.Schema{{Name: "m", Fields: []api.Field{{Name: "i", Number: 1, Kind: api.Uint32}}}}
	form(t, s, 0, string([]byte{8, 129, 0, 8, 130, 0}), 0, string([]byte{8, 2}), api.Fine)
	s = api.Schema{{Name: "m", Fields: []api.Field{{Name: "a", Number: 1, Kind: api.Sub}, {Name: "b", Number: 2, Kind: api.Uint32}}}}
	form(t, s, 0, string([]byte{16, 129, 0, 10, 2, 16, 5}), 1, string([]byte{10, 2, 16, 5, 16, 1}), api.Fine)
	form(t, s, 0, string([]byte{24, 7, 16, 129, 0, 10, 2, 16, 5}), 1, string([]byte{10, 2, 16, 5, 16, 1, 24, 7}), api.Fine)
	only(t, s, 0, string([]byte{24, 7, 16, 129, 0, 10, 2, 16, 5}), 1, 3, string([]byte{24, 7}), api.Fine)
	same(t, s, 0, string([]byte{16, 1, 16, 2}), string([]byte{16, 2}), 0, true, api.Fine)
}
