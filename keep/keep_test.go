package keep_test

import (
	"math"
	"slices"
	"strconv"
	"strings"
	"testing"

	"darning/algebra"
	"darning/api"
	"darning/keep"
	"darning/mask"
	"darning/record"
	"darning/tree"
	"darning/valid"
)

// messages is a schema of three, whose fields stand in no order: 0 and 1 have the same numbers for fields of unlike sorts, each of them some that the other one hasn't; 2 has none.
func messages() api.Schema {
	return api.Schema{
		{Name: "m", Fields: []api.Field{
			{Name: "n", Number: 3, Kind: api.Sub, Of: 1},
			{Name: "l", Number: 2, Kind: api.Int32, Repeated: true},
			{Name: "e", Number: 16, Kind: api.Sub, Of: 2},
			{Name: "i", Number: 1, Kind: api.Int32},
			{Name: "t", Number: 6, Kind: api.String, Repeated: true},
			{Name: "m", Number: 5, Kind: api.Sub},
			{Name: "s", Number: 4, Kind: api.String},
			{Name: "r", Number: 7, Kind: api.Sub, Repeated: true, Of: 1},
		}},
		{Name: "n", Fields: []api.Field{
			{Name: "y", Number: 7, Kind: api.Bytes},
			{Name: "n", Number: 2, Kind: api.Sub, Of: 1},
			{Name: "o", Number: 3, Kind: api.Bool},
			{Name: "x", Number: 5, Kind: api.Fixed32, Repeated: true, Packed: true},
			{Name: "r", Number: 1, Kind: api.Sub, Repeated: true},
			{Name: "m", Number: 4, Kind: api.Sub},
			{Name: "d", Number: api.MaxNumber, Kind: api.Double},
		}},
		{Name: "e"},
	}
}

// ills are schemas that aren't right.
func ills() []api.Schema {
	double, of, name := messages(), messages(), messages()
	double[1].Fields[2].Number = 5
	of[0].Fields[0].Of = 3
	name[2].Name = "1"
	return []api.Schema{nil, {}, make(api.Schema, 1), make(api.Schema, 101), double, of, name}
}

// show a schema and ways as a text.
func show(s api.Schema, ways [][]int) string {
	var b strings.Builder
	for _, m := range s {
		b.WriteString(m.Name + ":")
		for _, f := range m.Fields {
			b.WriteString(f.Name + " " + strconv.Itoa(f.Number) + " " + strconv.Itoa(f.Kind) + strconv.FormatBool(f.Repeated) + strconv.FormatBool(f.Packed) + strconv.Itoa(f.Of) + ",")
		}
	}
	for _, way := range ways {
		b.WriteByte('[')
		for _, n := range way {
			b.WriteString(" " + strconv.Itoa(n))
		}
		b.WriteByte(']')
	}
	return b.String()
}

// varint is a word as a minimal varint.
func varint(w uint64) string {
	b := ""
	for ; w >= 128; w /= 128 {
		b += string([]byte{byte(128 + w%128)})
	}
	return b + string([]byte{byte(w)})
}

// long is a record of wire type 2.
func long(number int, value string) string {
	return varint(8*uint64(number)+2) + varint(uint64(len(value))) + value
}

// fieldOf a number; one of no kind, if there is none.
func fieldOf(s api.Schema, message, number int) api.Field {
	for _, f := range s[message].Fields {
		if f.Number == number {
			return f
		}
	}
	return api.Field{}
}

// isOne: is it a field of one message?
func isOne(f api.Field) bool { return f.Kind == api.Sub && !f.Repeated }

// How much of what is at a way other ways mean.
const (
	nothing = iota
	some
	all
)

// meant tells how much of what is at a way these ways mean.
func meant(ways [][]int, way []int) int {
	much := nothing
	for _, w := range ways {
		switch {
		case len(w) <= len(way) && slices.Equal(w, way[:len(w)]):
			return all
		case len(w) > len(way) && slices.Equal(w[:len(way)], way):
			much = some
		}
	}
	return much
}

// parted tells by the chapter's words what is kept, and what is left, of valid bytes, that are at a way, by these ways.
func parted(s api.Schema, message int, b string, at []int, ways [][]int) (kept, left string) {
	l, _, _ := record.Split([]byte(b))
	for _, r := range l {
		way, f, whole := append(slices.Clone(at), r.Number), fieldOf(s, message, r.Number), b[r.From:r.To]
		switch much := meant(ways, way); {
		case much == all:
			kept += whole
		case much == some && isOne(f):
			x, y := parted(s, f.Of, b[r.At:r.To], way, ways)
			kept += ahead(whole) + varint(uint64(len(x))) + x
			left += ahead(whole) + varint(uint64(len(y))) + y
		default:
			left += whole
		}
	}
	return kept, left
}

// ahead is what stands ahead of a record's length: its tag.
func ahead(b string) string {
	n := strings.IndexFunc(b, func(c rune) bool { return c < 128 })
	return b[:n+1]
}

// there: is there a record at a way? All values at each step are gathered.
func there(b string, way []int) bool {
	values := []string{b}
	for _, number := range way {
		var inner []string
		for _, v := range values {
			l, _, _ := record.Split([]byte(v))
			for _, r := range l {
				if r.Number == number {
					inner = append(inner, v[r.At:r.To])
				}
			}
		}
		values = inner
	}
	return len(values) > 0
}

// path of a way.
func path(s api.Schema, root int, way []int) string {
	var names []string
	f := api.Field{Of: root}
	for _, number := range way {
		f = fieldOf(s, f.Of, number)
		names = append(names, f.Name)
	}
	return strings.Join(names, ".")
}

// dice are numbers that look like chance, and are the same each time.
type dice uint64

// under tells the next one, from 0 to n - 1.
func (d *dice) under(n int) int {
	*d = *d*6364136223846793005 + 1442695040888963407
	return int(uint64(*d) >> 33 % uint64(n))
}

// loose is a word as a varint, minimal or not.
func (d *dice) loose(w uint64) string {
	b := []byte(varint(w))
	for d.under(4) == 0 && len(b) < 10 {
		b[len(b)-1] |= 128
		b = append(b, 0)
	}
	return string(b)
}

// record with a tag that is minimal or not; of wire type 2 with such a length.
func (d *dice) record(number, wire int, value string) string {
	b := d.loose(8*uint64(number) + uint64(wire))
	if wire == api.Len {
		b += d.loose(uint64(len(value)))
	}
	return b + value
}

// message's valid bytes, of up to so many levels.
func (d *dice) message(s api.Schema, message, levels int) string {
	b := ""
	for range d.under(5 + levels) {
		n := d.under(18)
		if levels > 0 && d.under(2) == 0 {
			// Mostly numbers of fields in which a message lies.
			n = 1 + d.under(5)
		}
		f := fieldOf(s, message, n)
		if n == 17 && message == 1 {
			f = fieldOf(s, message, api.MaxNumber)
		}
		switch {
		case n == 0:
		case f.Kind == 0:
			b += d.stranger(n)
		case f.Kind != api.Sub || levels > 0:
			b += d.known(s, f, levels)
		}
	}
	return b
}

// stranger is a record of any wire type.
func (d *dice) stranger(number int) string {
	wire := []int{api.Varint, api.Len, api.Len, api.Four, api.Eight}[d.under(5)]
	return d.record(number, wire, d.value(wire))
}

// value of a wire type.
func (d *dice) value(wire int) string {
	switch wire {
	case api.Varint:
		return d.loose(uint64([]int{0, 1, 2, 127, 128, 300}[d.under(6)]))
	case api.Eight:
		return "\x01\x02\x03\x04\x05\x06\x07\x08"
	case api.Four:
		return "\x01\x02\x03\x04"
	}
	return []string{"", "a", "\x08\x01", "é", strings.Repeat("x", 120), strings.Repeat("y", 128)}[d.under(6)]
}

// known field's record.
func (d *dice) known(s api.Schema, f api.Field, levels int) string {
	switch {
	case f.Kind == api.Sub:
		return d.record(f.Number, api.Len, d.message(s, f.Of, levels-1))
	case f.Kind == api.Int32 && f.Repeated && d.under(2) == 0:
		return d.record(f.Number, api.Len, strings.Repeat(d.value(api.Varint), d.under(3)))
	case f.Kind == api.Int32 || f.Kind == api.Bool:
		return d.record(f.Number, api.Varint, d.value(api.Varint))
	case f.Kind == api.Fixed32 && d.under(2) == 0:
		return d.record(f.Number, api.Len, strings.Repeat(d.value(api.Four), d.under(3)))
	case f.Kind == api.Fixed32:
		return d.record(f.Number, api.Four, d.value(api.Four))
	case f.Kind == api.Double:
		return d.record(f.Number, api.Eight, d.value(api.Eight))
	}
	return d.record(f.Number, api.Len, d.value(api.Len))
}

// way of a path through a message that has fields: mostly to a record that is there.
func (d *dice) way(s api.Schema, message int, b string) []int {
	fields := s[message].Fields
	f, inner := fields[d.under(len(fields))], ""
	l, _, _ := record.Split([]byte(b))
	if len(l) > 0 && d.under(6) > 0 {
		r := l[d.under(len(l))]
		if known := fieldOf(s, message, r.Number); known.Kind > 0 {
			f, inner = known, b[r.At:r.To]
		}
	}
	if isOne(f) && len(s[f.Of].Fields) > 0 && d.under(6) > 0 {
		return append([]int{f.Number}, d.way(s, f.Of, inner)...)
	}
	return []int{f.Number}
}

// ways of a message: none, or some, in no order, perhaps some of them twice, or under others.
func (d *dice) ways(s api.Schema, message, most int, b string) [][]int {
	var l [][]int
	for range d.under(most + 1) {
		if len(s[message].Fields) > 0 {
			l = append(l, d.way(s, message, b))
		}
	}
	return l
}

// told checks bytes that were told, that those handed in, and what lies behind them in memory, are as they were then, and that bytes told anew are others.
func told(t *testing.T, name, b, want string, why api.Code, ask func(b []byte) ([]byte, api.Code)) {
	t.Helper()
	whole := []byte(b + "behind")
	c, e := ask(whole[:len(b)])
	if string(c) != want || e != why {
		t.Fatalf("%s of %q: %q, %v, not %q, %v", name, b, c, e, want, why)
	}
	for i := range c {
		c[i]++
	}
	if string(whole) != b+"behind" {
		t.Fatalf("R4: %s: %q was changed to %q", name, b+"behind", whole)
	}
	if c, _ = ask(whole[:len(b)]); string(c) != want {
		t.Fatalf("R4: %s: what it told was changed, and so was what it told behind that: %q, not %q", name, c, want)
	}
}

// cut checks Of and Rest.
func cut(t *testing.T, s api.Schema, root int, b string, d int, m mask.Mask, kept, left string, why api.Code) {
	t.Helper()
	before := show(s, m.Ways)
	told(t, "P19.1: Of "+show(nil, m.Ways), b, kept, why, func(b []byte) ([]byte, api.Code) { return keep.Of(s, root, b, d, m) })
	told(t, "P19.1: Rest "+show(nil, m.Ways), b, left, why, func(b []byte) ([]byte, api.Code) { return keep.Rest(s, root, b, d, m) })
	if show(s, m.Ways) != before {
		t.Fatalf("R4: Of, or Rest: %s was changed to %s", before, show(s, m.Ways))
	}
}

// cutBy checks Paths and Without.
func cutBy(t *testing.T, s api.Schema, root int, b string, d int, paths []string, kept, left string, why api.Code) {
	t.Helper()
	before := show(s, nil) + strings.Join(paths, " ")
	told(t, "P19.2: Paths "+strings.Join(paths, " "), b, kept, why, func(b []byte) ([]byte, api.Code) { return keep.Paths(s, root, b, d, paths) })
	told(t, "P19.2: Without "+strings.Join(paths, " "), b, left, why, func(b []byte) ([]byte, api.Code) { return keep.Without(s, root, b, d, paths) })
	if after := show(s, nil) + strings.Join(paths, " "); after != before {
		t.Fatalf("R4: Paths, or Without: %s was changed to %s", before, after)
	}
}

// has checks Has.
func has(t *testing.T, s api.Schema, root int, b string, d int, p string, want bool, why api.Code) {
	t.Helper()
	in := []byte(b)
	if ok, e := keep.Has(s, root, in, d, p); ok != want || e != why {
		t.Fatalf("P19.2: Has %q of %q, %d within %d: %t, %v, not %t, %v", p, b, root, d, ok, e, want, why)
	}
	if string(in) != b {
		t.Fatalf("R4: Has: %q was changed to %q", b, in)
	}
}

// asked checks all calls of bytes, valid or not, and some of a message's ways, and tells what is kept and left.
func asked(t *testing.T, s api.Schema, root int, b string, d int, ways [][]int) (kept, left string, e api.Code) {
	t.Helper()
	_, e = valid.Check(s, root, []byte(b), d)
	if e == api.Fine {
		kept, left = parted(s, root, b, nil, ways)
	}
	cut(t, s, root, b, d, mask.Of(ways), kept, left, e)
	var paths []string
	for _, way := range ways {
		p := path(s, root, way)
		has(t, s, root, b, d, p, e == api.Fine && there(b, way), e)
		paths = append(paths, p)
	}
	cutBy(t, s, root, b, d, paths, kept, left, e)
	return kept, left, e
}

// mean is what valid bytes mean.
func mean(t *testing.T, s api.Schema, root int, b string, d int) tree.Msg {
	t.Helper()
	x, e := tree.Of(s, root, []byte(b), d)
	if e != api.Fine {
		t.Fatalf("P19.3: %q, %d within %d, isn't valid: %v", b, root, d, e)
	}
	return x
}

// sorted is a meaning with its unknown records, in all its meanings, by their bytes.
func sorted(x tree.Msg) tree.Msg {
	c := tree.Copy(x)
	slices.Sort(c.Unknown)
	for _, v := range c.Values {
		for i := range v.Subs {
			v.Subs[i] = sorted(v.Subs[i])
		}
	}
	return c
}

// means checks what is kept, and left, by what algebra does to the meaning.
func means(t *testing.T, s api.Schema, root int, b, kept, left string, d int, ways [][]int) {
	t.Helper()
	x, m := mean(t, s, root, b, d), mask.Of(ways)
	y, z := mean(t, s, root, kept, d), mean(t, s, root, left, d)
	if want, e := algebra.Keep(s, root, x, m); e != api.Fine || !tree.Same(y, want) {
		t.Fatalf("T2: %q, kept by %s, means %v, not %v", b, show(nil, ways), y, want)
	}
	if want, e := algebra.Leave(s, root, x, m); e != api.Fine || !tree.Same(z, want) {
		t.Fatalf("T2: %q, left by %s, means %v, not %v", b, show(nil, ways), z, want)
	}
	if len(kept) > len(b) || len(left) > len(b) {
		t.Fatalf("P19.3: %q, kept and left by %s, is %q and %q", b, show(nil, ways), kept, left)
	}
	for _, both := range []string{kept + left, left + kept} {
		if !tree.Same(sorted(mean(t, s, root, both, d)), sorted(x)) {
			t.Fatalf("P19.3: %q means another thing than %q", both, b)
		}
	}
}

// P19.1, P19.2, P19.3: messages of all sorts, and ways of all sorts, within just as many levels as there are, and within fewer.
func TestCut(t *testing.T) {
	s := messages()
	for root := range s {
		d, deep, shared, both := dice(root), 0, 0, 0
		for turn := range 2000 {
			b := d.message(s, root, turn%5)
			ways := d.ways(s, root, turn%7, b)
			levels, e := valid.Depth(s, root, []byte(b))
			if e != api.Fine {
				t.Fatalf("%q isn't valid: %v", b, e)
			}
			kept, left, _ := asked(t, s, root, b, levels, ways)
			means(t, s, root, b, kept, left, levels, ways)
			if levels > 0 {
				deep++
				asked(t, s, root, b, levels-1, ways)
			}
			if kept != "" && left != "" {
				both++
			}
			if len(kept)+len(left) != len(b) {
				shared++
			}
		}
		if root < 2 && (deep < 900 || both < 600 || shared < 200) {
			t.Errorf("of messages %d only %d have messages, %d are kept in part, and %d cut within one", root, deep, both, shared)
		}
	}
}

// P19.1, P19.2: all bytes of up to five of these.
func TestAllBytes(t *testing.T) {
	s := api.Schema{{Name: "m", Fields: []api.Field{{Name: "l", Number: 3, Kind: api.Bool, Repeated: true}, {Name: "b", Number: 1, Kind: api.Bool}, {Name: "m", Number: 2, Kind: api.Sub}}}}
	count := map[api.Code]int{}
	l := []string{""}
	for range 6 {
		var more []string
		for _, b := range l {
			for _, ways := range [][][]int{{{2, 1}}, nil, {{2, 2}, {3}}, {{2, 2, 3}, {1}}} {
				kept, left, e := asked(t, s, 0, b, 2, ways)
				count[e]++
				if e != api.Fine {
					break
				}
				means(t, s, 0, b, kept, left, 2, ways)
			}
			for _, last := range []string{"\x00", "\x01", "\x02", "\x08", "\x12", "\x1a", "\x80"} {
				more = append(more, b+last)
			}
		}
		l = more
	}
	for _, why := range []api.Code{api.Fine, api.Short, api.Tag} {
		if count[why] < 50 {
			t.Errorf("only %d that tell %v", count[why], why)
		}
	}
}

// P19.1, P19.2: messages with a byte or ten more, one less, or others, and with one thing behind the other.
func TestChanged(t *testing.T) {
	s, d, count := messages(), dice(3), map[api.Code]int{}
	for root := range s {
		for turn := range 100 {
			b := d.message(s, root, turn%5)
			ways := d.ways(s, root, 4, b)
			for range 6 {
				i := d.under(len(b) + 1)
				j := min(len(b), i+1)
				more := []string{"\x00", "\x01", "\x02", "\x80", "\xff", strings.Repeat("\xff", 10)}[d.under(6)]
				for _, c := range []string{b[:i] + more + b[i:], b[:i] + b[j:], b[:i] + more + b[j:], b[i:] + b[:i], b[:i]} {
					_, _, e := asked(t, s, root, c, 64, ways)
					count[e]++
				}
			}
			_, _, e := asked(t, s, root, b+b, (turn+2)%5, ways)
			count[e]++
		}
	}
	for _, why := range []api.Code{api.Fine, api.Short, api.Over, api.Tag, api.Wire, api.Utf, api.Depth} {
		if count[why] < 3 {
			t.Errorf("only %d that tell %v", count[why], why)
		}
	}
}

// P19.1, P19.2: messages written out, with what is kept and left of them.
func TestWritten(t *testing.T) {
	s := messages()
	const eight, four, two = "\x01\x02\x03\x04\x05\x06\x07\x08", "\x01\x02\x03\x04", "\x1a\x06\x12\x04\x18\x01\x3a\x00"
	most, less := long(7, strings.Repeat("x", 126)), long(7, strings.Repeat("x", 125))
	for _, c := range []struct{ b, paths, kept, left string }{
		{"", "", "", ""}, {"", "i", "", ""}, {"", "n.o", "", ""}, {"\x08\x01", "", "", "\x08\x01"}, {"\x08\x01", "n.o", "", "\x08\x01"},
		// What is meant as a whole stays as it is, each record of it, whatever its wire type is, and so does what isn't meant.
		{"\x88\x00\x81\x00", "i", "\x88\x00\x81\x00", ""}, {"\x88\x00\x81\x00", "l", "", "\x88\x00\x81\x00"}, {"\x08\x01\x08\x02\x10\x03", "i", "\x08\x01\x08\x02", "\x10\x03"},
		{"\x10\x01\x12\x82\x00\x05\x06\x12\x00\x08\x01", "l", "\x10\x01\x12\x82\x00\x05\x06\x12\x00", "\x08\x01"}, {"\x22\x81\x80\x00a", "s", "\x22\x81\x80\x00a", ""}, {"\x32\x01a\x22\x00\x32\x00", "t", "\x32\x01a\x32\x00", "\x22\x00"},
		{"\x1a\x83\x00\x18\x81\x00\x08\x01", "n", "\x1a\x83\x00\x18\x81\x00", "\x08\x01"}, {"\x3a\x82\x00\x18\x01\x3a\x00", "r", "\x3a\x82\x00\x18\x01\x3a\x00", ""}, {"\x3a\x82\x00\x18\x01\x3a\x00", "n.o", "", "\x3a\x82\x00\x18\x01\x3a\x00"},
		// Unknown records are left, but in what is meant as a whole.
		{"\xc0\x80\x00\x81\x00", "i", "", "\xc0\x80\x00\x81\x00"}, {"\x1a\x02\x30\x07", "n.o", "\x1a\x00", "\x1a\x02\x30\x07"}, {"\x1a\x02\x30\x07", "n", "\x1a\x02\x30\x07", ""}, {"\x82\x01\x02\x08\x01", "e", "\x82\x01\x02\x08\x01", ""},
		// In a message a field's number is another one's, or nobody's.
		{"\x1a\x02\x18\x01", "i,l", "", "\x1a\x02\x18\x01"}, {"\x82\x01\x02\x08\x01", "i", "", "\x82\x01\x02\x08\x01"}, {"\x1a\x04\x22\x02\x08\x01", "i,n.m.l", "\x1a\x02\x22\x00", "\x1a\x04\x22\x02\x08\x01"},
		// A message that is meant in part stays on both sides, with its tag as it is, and its minimal length; each piece of it by itself.
		{"\x1a\x00", "n.o", "\x1a\x00", "\x1a\x00"}, {"\x9a\x80\x00\x80\x00", "n.o", "\x9a\x80\x00\x00", "\x9a\x80\x00\x00"}, {"\x9a\x00\x84\x00\x18\x01\x30\x07", "n.o", "\x9a\x00\x02\x18\x01", "\x9a\x00\x02\x30\x07"},
		{"\x1a\x02\x18\x01\x08\x05\x1a\x00\x1a\x04\x18\x00\x3a\x00", "n.o,i", "\x1a\x02\x18\x01\x08\x05\x1a\x00\x1a\x02\x18\x00", "\x1a\x00\x1a\x00\x1a\x02\x3a\x00"},
		{"\x1a\x04\x0a\x02\x08\x01", "n.r", "\x1a\x04\x0a\x02\x08\x01", "\x1a\x00"}, {"\x1a\x07\x2d" + four + "\x18\x01", "n.x", "\x1a\x05\x2d" + four, "\x1a\x02\x18\x01"}, {"\x1a\x04\x2a\x00\x18\x01", "n.x", "\x1a\x02\x2a\x00", "\x1a\x02\x18\x01"},
		{"\x1a\x0f\xf9\xff\xff\xff\x0f" + eight + "\x18\x01", "n.d", "\x1a\x0d\xf9\xff\xff\xff\x0f" + eight, "\x1a\x02\x18\x01"},
		// Messages in messages.
		{two, "n.n.o", "\x1a\x04\x12\x02\x18\x01", "\x1a\x04\x12\x02\x3a\x00"}, {two, "n.n.y,n.n.o", two, "\x1a\x02\x12\x00"}, {two, "n.n", two, "\x1a\x00"}, {two, "n.n.o,n", two, ""}, {two, "n.n.o,n.n", two, "\x1a\x00"},
		{two, "n.m.i", "\x1a\x00", two}, {two, "n.n.n.o", "\x1a\x02\x12\x00", two}, {two, "n.n.m.i,n.o", "\x1a\x02\x12\x00", two}, {two, "m.n.n.o", "", two},
		{"\x2a\x06\x2a\x04\x08\x01\x08\x02\x08\x03", "m.m.i", "\x2a\x06\x2a\x04\x08\x01\x08\x02", "\x2a\x02\x2a\x00\x08\x03"}, {"\x2a\x06\x2a\x02\x08\x01\x08\x02\x08\x03", "m.i", "\x2a\x02\x08\x02", "\x2a\x04\x2a\x02\x08\x01\x08\x03"}, {"\x2a\x06\x2a\x02\x08\x01\x08\x02\x08\x03", "i,m.m.i", "\x2a\x04\x2a\x02\x08\x01\x08\x03", "\x2a\x04\x2a\x00\x08\x02"},
		// Lengths with one byte less, or none.
		{long(3, most+"\x18\x01"), "n.o", "\x1a\x02\x18\x01", "\x1a\x80\x01" + most}, {long(3, less+"\x18\x01"), "n.y", "\x1a\x7f" + less, "\x1a\x02\x18\x01"}, {long(3, most), "n.o", "\x1a\x00", "\x1a\x80\x01" + most},
	} {
		paths := strings.Split(c.paths, ",")
		if c.paths == "" {
			paths = nil
		}
		cutBy(t, s, 0, c.b, 3, paths, c.kept, c.left, api.Fine)
		m, _ := mask.Make(s, 0, paths)
		cut(t, s, 0, c.b, 3, m, c.kept, c.left, api.Fine)
	}
}

// P19.2: messages written out, and paths whose fields they have, or not.
func TestHas(t *testing.T) {
	for _, c := range []struct {
		b, p string
		want bool
	}{
		{"", "i", false}, {"\x08\x00", "i", true}, {"\x88\x00\x80\x00", "i", true}, {"\x08\x01", "l", false}, {"\x10\x01", "l", true}, {"\x08\x01\x10\x01", "l", true},
		// A run of no words is a record, an empty message, too.
		{"\x12\x00", "l", true}, {"\x1a\x00", "n", true}, {"\x3a\x00", "r", true}, {"\x32\x00", "t", true}, {"\x82\x01\x02\x08\x01", "e", true}, {"\x82\x01\x00", "i", false}, {"\x40\x01", "r", false},
		// In one of the messages' pieces.
		{"\x1a\x00", "n.o", false}, {"\x1a\x02\x18\x00", "n.o", true}, {"\x1a\x00\x1a\x02\x18\x00", "n.o", true}, {"\x1a\x02\x18\x00\x1a\x00", "n.o", true}, {"\x1a\x04\x30\x01\x18\x00", "n.o", true},
		{"\x1a\x02\x12\x00\x1a\x04\x22\x02\x08\x01", "n.m.i", true}, {"\x1a\x02\x12\x00\x1a\x04\x22\x02\x08\x01", "n.n", true}, {"\x1a\x02\x12\x00\x1a\x04\x22\x02\x08\x01", "n.n.o", false}, {"\x1a\x02\x12\x00\x1a\x04\x22\x02\x08\x01", "n.m.l", false},
		// Not in others, nor deeper, nor higher.
		{"\x1a\x02\x18\x01", "n.n.o", false}, {"\x1a\x04\x12\x02\x18\x01", "n.o", false}, {"\x1a\x04\x12\x02\x18\x01", "n.n.o", true}, {"\x3a\x02\x18\x01", "n.o", false}, {"\x2a\x04\x1a\x02\x18\x01", "n.o", false}, {"\x2a\x04\x1a\x02\x18\x01", "m.n.o", true}, {"\x2a\x02\x08\x01", "i", false}, {"\x08\x01", "m.i", false},
	} {
		has(t, messages(), 0, c.b, 2, c.p, c.want, api.Fine)
	}
}

// edges are a number's neighbours, and the ends.
func edges(size int) []int {
	return []int{math.MinInt, -2, -1, 0, size - 1, size, size + 1, 255, 256, math.MaxInt}
}

// paths are so many of one.
func paths(count int, p string) []string { return slices.Repeat([]string{p}, count) }

// first error of these.
func first(l ...api.Code) api.Code {
	for _, e := range l {
		if e != api.Fine {
			return e
		}
	}
	return api.Fine
}

// refused checks all calls of arguments that may be wrong, by ways and paths that mean nothing or are wrong, and tells valid.Check's error.
func refused(t *testing.T, s api.Schema, root int, b string, d int) api.Code {
	t.Helper()
	_, e := valid.Check(s, root, []byte(b), d)
	args, left := valid.Args(s, root, d), ""
	if e == api.Fine {
		left = b
	}
	cut(t, s, root, b, d, mask.Mask{}, "", left, e)
	cut(t, s, root, b, d, mask.Mask{Ways: [][]int{{99}}}, "", "", first(e, api.Mask))
	for _, l := range [][]string{nil, {}} {
		cutBy(t, s, root, b, d, l, "", left, e)
	}
	for _, l := range [][]string{{"?"}, {""}, paths(200, "?")} {
		cutBy(t, s, root, b, d, l, "", "", first(args, api.Mask))
	}
	for _, l := range [][]string{paths(201, "?"), paths(201, "")} {
		cutBy(t, s, root, b, d, l, "", "", first(args, api.Large))
	}
	has(t, s, root, b, d, "?", false, first(args, api.Mask))
	return e
}

// P19.1, P19.2: schemas, messages' numbers, depths, bytes, masks and paths, right and not, in the order in which they are told.
func TestErrors(t *testing.T) {
	count := map[api.Code]int{}
	for _, s := range append([]api.Schema{messages()}, ills()...) {
		for _, root := range edges(len(messages())) {
			for _, d := range edges(65) {
				for _, b := range []string{"", "\x08", "\x22\x01\xff", "\x2a\x00", "\x0a\x00", "\x00", "\xa0\x06\x07"} {
					count[refused(t, s, root, b, d)]++
				}
			}
		}
	}
	for _, why := range []api.Code{api.Fine, api.Ill, api.Arg, api.Short, api.Utf, api.Wire, api.Depth, api.Tag} {
		if count[why] < 1 {
			t.Errorf("none that tells %v", why)
		}
	}
}

// P19.1: masks that are none of the message: of valid bytes alone they are told.
func TestMasks(t *testing.T) {
	s := messages()
	all := "\x08\x01\x10\x01\x1a\x02\x18\x01\x3a\x02\x18\x01\xc0\x01\x07"
	for _, ways := range [][][]int{
		{nil}, {{}}, {{}, {1}}, {{1}, {}}, {{0}}, {{-1}}, {{8}}, {{24}}, {{math.MaxInt}}, {{math.MinInt}}, {{1}, {8}}, {{-1}, {1}},
		{{1}, {1}}, {{2}, {1}}, {{3, 3}, {3, 2}}, {{3, 3}, {3, 3}}, {{3}, {3, 3}}, {{3, 3}, {3}}, {{1}, {3, 3}, {2}}, {{3, 2}, {3, 2, 3}},
		{{1, 1}}, {{2, 1}}, {{4, 1}}, {{7, 3}}, {{16, 1}}, {{3, 1, 1}}, {{3, 6}}, {{3, 0}}, {{3, 3, 3}}, {{5, 3, 4, 8}}, {slices.Repeat([]int{5}, 66)}, {append(slices.Repeat([]int{5}, 65), 1)},
	} {
		for _, d := range []int{1, 64} {
			cut(t, s, 0, all, d, mask.Mask{Ways: ways}, "", "", api.Mask)
			cut(t, s, 0, "", d, mask.Mask{Ways: ways}, "", "", api.Mask)
			cut(t, s, 0, all+"\x00", d, mask.Mask{Ways: ways}, "", "", api.Tag)
		}
		cut(t, s, 0, all, 0, mask.Mask{Ways: ways}, "", "", api.Depth)
		cut(t, s, 0, all, 65, mask.Mask{Ways: ways}, "", "", api.Arg)
		cut(t, nil, 0, all, 64, mask.Mask{Ways: ways}, "", "", api.Ill)
	}
	cut(t, s, 2, "\x08\x01", 0, mask.Mask{Ways: [][]int{{1}}}, "", "", api.Mask)
	cut(t, s, 2, "\x08\x01", 0, mask.Mask{Ways: [][]int{}}, "", "\x08\x01", api.Fine)
	cut(t, s, 0, all, 1, mask.Mask{Ways: [][]int{{1}, {3, 3}, {7}}}, "\x08\x01\x1a\x02\x18\x01\x3a\x02\x18\x01", "\x10\x01\x1a\x00\xc0\x01\x07", api.Fine)
}

// P19.2: paths that lead to no field; those that do lead there, by themselves and together.
func TestPaths(t *testing.T) {
	s := messages()
	all := "\x08\x01\x10\x01\x1a\x02\x18\x01\x3a\x02\x18\x01\xc0\x01\x07"
	for _, p := range []string{"", ".", "i.", ".i", "x", "I", "i i", "i.i", "l.i", "s.i", "r.o", "e.i", "n.i", "n.o.o", "n.r.i", "n..o", "n.o.", "i,l", "m", strings.Repeat("m.", 65) + "i"} {
		want := api.Mask
		if p == "m" {
			want = api.Fine
		}
		for _, d := range []int{0, 1, 64} {
			why := want
			if why == api.Fine && d == 0 {
				why = api.Depth
			}
			has(t, s, 0, all, d, p, false, why)
			for _, l := range [][]string{{p}, {"i", p}, {p, "i", "n.o"}, append(paths(199, "i"), p)} {
				if want != api.Fine {
					cutBy(t, s, 0, all, d, l, "", "", want)
					cutBy(t, s, 0, "\x00", d, l, "", "", want)
				}
			}
			cutBy(t, s, 0, all, d, append(paths(200, "i"), p), "", "", api.Large)
			cutBy(t, s, 0, all, 65, []string{p}, "", "", api.Arg)
			cutBy(t, s, 3, all, d, []string{p}, "", "", api.Arg)
			cutBy(t, nil, 0, all, d, []string{p}, "", "", api.Ill)
		}
		has(t, s, 0, all, 65, p, false, api.Arg)
		has(t, s, -1, all, 64, p, false, api.Arg)
		has(t, ills()[4], 0, all, 65, p, false, api.Ill)
	}
	cutBy(t, s, 0, all, 1, paths(200, "i"), "\x08\x01", all[2:], api.Fine)
	cutBy(t, s, 0, all, 1, append(paths(150, "r"), paths(50, "n.o")...), "\x1a\x02\x18\x01\x3a\x02\x18\x01", "\x08\x01\x10\x01\x1a\x00\xc0\x01\x07", api.Fine)
	cutBy(t, s, 0, all+"\x00", 1, paths(200, "i"), "", "", api.Tag)
	has(t, s, 0, all+"\x00", 1, "i", false, api.Tag)
}

// chain is a message in so many levels of a field, with something behind each; the heads are reckoned from inside, and written from outside.
func chain(number int, inner string, levels int, behind string) string {
	heads, size := []string{}, len(inner)
	for range levels {
		head := long(number, strings.Repeat("x", size))
		head = head[:len(head)-size]
		heads = append(heads, head)
		size += len(head) + len(behind)
	}
	slices.Reverse(heads)
	return strings.Join(heads, "") + inner + strings.Repeat(behind, levels)
}

// P19.1, P19.2, R1: as many levels as there may be, and ways and paths of so many numbers and names.
func TestDeep(t *testing.T) {
	s := messages()
	for levels := range 65 {
		way, p := append(slices.Repeat([]int{5}, levels), 1), strings.Repeat("m.", levels)+"i"
		for _, size := range []int{0, 1, 120, 125, 127, 1 << 14} {
			text := long(4, strings.Repeat("x", size))
			b := chain(5, "\x08\x81\x00"+text, levels, "\x40\x07")
			kept, left := chain(5, "\x08\x81\x00", levels, ""), chain(5, text, levels, "\x40\x07")
			for _, d := range []int{levels - 1, levels, 64} {
				switch {
				case d < 0:
				case d < levels:
					cut(t, s, 0, b, d, mask.Mask{Ways: [][]int{way}}, "", "", api.Depth)
					cutBy(t, s, 0, b, d, []string{p}, "", "", api.Depth)
					has(t, s, 0, b, d, p, false, api.Depth)
				default:
					cut(t, s, 0, b, d, mask.Mask{Ways: [][]int{way}}, kept, left, api.Fine)
					cutBy(t, s, 0, b, d, []string{p}, kept, left, api.Fine)
					has(t, s, 0, b, d, p, true, api.Fine)
					has(t, s, 0, b, d, strings.Repeat("m.", levels)+"l", false, api.Fine)
				}
			}
		}
	}
	// At each third level a field is meant.
	var ways [][]int
	for levels := range 64 {
		if levels%3 == 0 {
			ways = append(ways, append(slices.Repeat([]int{5}, levels), 1))
		}
	}
	b, kept, left := "\x08\x01\x10\x01", "\x08\x01", "\x10\x01"
	for levels := 62; levels >= 0; levels-- {
		b, kept, left = "\x08\x02"+long(5, b), long(5, kept), long(5, left)
		if levels%3 == 0 {
			kept = "\x08\x02" + kept
		} else {
			left = "\x08\x02" + left
		}
	}
	cut(t, s, 0, b, 64, mask.Of(ways), kept, left, api.Fine)
}

// greatest is a schema of as many messages and fields as there may be.
func greatest() api.Schema {
	var s api.Schema
	for i := range api.MaxMessages {
		m := api.Message{Name: "m" + strconv.Itoa(i)}
		for j := range api.MaxFields {
			m.Fields = append(m.Fields, api.Field{Name: "f" + strconv.Itoa(j), Number: api.MaxFields - j, Kind: api.Sub, Of: (i + 1) % api.MaxMessages})
		}
		s = append(s, m)
	}
	return s
}

// P19.1, R1: very many records of all sorts, and very many ways.
func TestMany(t *testing.T) {
	const many = 1 << 17
	s := messages()
	for _, c := range []struct{ b, path, kept, left string }{
		{"\x08\x01", "i", "\x08\x01", ""}, {"\x08\x01", "l", "", "\x08\x01"}, {"\x40\x81\x00", "i", "", "\x40\x81\x00"},
		{"\x9a\x00\x84\x00\x18\x01\x30\x07", "n.o", "\x9a\x00\x02\x18\x01", "\x9a\x00\x02\x30\x07"}, {"\x3a\x02\x18\x01", "r", "\x3a\x02\x18\x01", ""},
	} {
		b, kept, left := strings.Repeat(c.b, many), strings.Repeat(c.kept, many), strings.Repeat(c.left, many)
		cutBy(t, s, 0, b, 1, []string{c.path}, kept, left, api.Fine)
		has(t, s, 0, b, 1, c.path, kept != "", api.Fine)
		cutBy(t, s, 0, chain(5, b, 63, ""), 64, []string{strings.Repeat("m.", 63) + c.path}, chain(5, kept, 63, ""), chain(5, left, 63, ""), api.Fine)
	}
	var ways [][]int
	b, kept, left := "", "", ""
	for n := 1; n <= api.MaxFields; n++ {
		inner, part, rest := "", "", ""
		for k := 1; k <= api.MaxFields; k++ {
			r := long(k, "")
			inner += r
			if (n+k)%2 == 0 {
				ways = append(ways, []int{n, k})
				part += r
			} else {
				rest += r
			}
		}
		b, kept, left = b+long(n, inner), kept+long(n, part), left+long(n, rest)
	}
	cut(t, greatest(), 7, b, 2, mask.Mask{Ways: ways}, kept, left, api.Fine)
}

// P19.1, P19.2, R6: nothing is kept: what is done to a schema, to bytes, or to a mask between calls is seen.
func TestNothingIsKept(t *testing.T) {
	s := api.Schema{{Name: "m", Fields: []api.Field{{Name: "i", Number: 1, Kind: api.Sub}}}}
	for range 2 {
		f := &s[0].Fields[0]
		way := []int{1, 1}
		m := mask.Mask{Ways: [][]int{way}}
		cut(t, s, 0, "\x0a\x02\x0a\x00", 2, m, "\x0a\x02\x0a\x00", "\x0a\x00", api.Fine)
		cutBy(t, s, 0, "\x0a\x02\x0a\x00", 2, []string{"i.i"}, "\x0a\x02\x0a\x00", "\x0a\x00", api.Fine)
		way[1] = 2
		cut(t, s, 0, "\x0a\x02\x0a\x00", 2, m, "", "", api.Mask)
		m.Ways[0] = []int{1}
		cut(t, s, 0, "\x0a\x02\x0a\x00", 2, m, "\x0a\x02\x0a\x00", "", api.Fine)
		f.Number = 2
		cut(t, s, 0, "\x0a\x02\x0a\x00", 2, m, "", "", api.Mask)
		cutBy(t, s, 0, "\x0a\x02\x0a\x00", 2, []string{"i.i"}, "", "\x0a\x02\x0a\x00", api.Fine)
		has(t, s, 0, "\x0a\x02\x0a\x00", 2, "i.i", false, api.Fine)
		f.Number, f.Repeated = 1, true
		cutBy(t, s, 0, "\x0a\x02\x0a\x00", 2, []string{"i.i"}, "", "", api.Mask)
		has(t, s, 0, "\x0a\x02\x0a\x00", 2, "i", true, api.Fine)
		f.Name = ""
		cut(t, s, 0, "\x0a\x02\x0a\x00", 2, m, "", "", api.Ill)
		s[0].Fields[0] = api.Field{Name: "i", Number: 1, Kind: api.Sub}
	}
}

// P19.1, P19.2, R3: slices without things are nil or empty.
func TestNothing(t *testing.T) {
	for _, b := range [][]byte{nil, {}} {
		for _, ways := range [][][]int{nil, {}} {
			x, e := keep.Of(messages(), 0, b, 0, mask.Mask{Ways: ways})
			y, f := keep.Rest(messages(), 0, b, 0, mask.Mask{Ways: ways})
			if len(x)+len(y) > 0 || e != api.Fine || f != api.Fine {
				t.Errorf("P19.1: of no bytes: %q, %v, and %q, %v", x, e, y, f)
			}
		}
		for _, l := range [][]string{nil, {}, {"i"}} {
			x, e := keep.Paths(messages(), 0, b, 0, l)
			y, f := keep.Without(messages(), 0, b, 0, l)
			if len(x)+len(y) > 0 || e != api.Fine || f != api.Fine {
				t.Errorf("P19.2: of no bytes: %q, %v, and %q, %v", x, e, y, f)
			}
		}
		if ok, e := keep.Has(messages(), 0, b, 0, "i"); ok || e != api.Fine {
			t.Errorf("P19.2: Has of no bytes: %t, %v", ok, e)
		}
	}
}

// P19.1, P19.2: the chapter's example, and those of the whole.
func TestExamples(t *testing.T) {
	s := api.Schema{{Name: "m", Fields: []api.Field{{Name: "a", Number: 1, Kind: api.Sub}}}}
	cutBy(t, s, 0, string([]byte{10, 2, 16, 1}), 1, []string{"a.a"}, string([]byte{10, 0}), string([]byte{10, 2, 16, 1}), api.Fine)
	s = api.Schema{{Name: "m", Fields: []api.Field{{Name: "a", Number: 1, Kind: api.Sub}, {Name: "b", Number: 2, Kind: api.Uint32}}}}
	whole := string([]byte{16, 129, 0, 10, 2, 16, 5})
	cutBy(t, s, 0, whole, 1, []string{"a.b"}, string([]byte{10, 2, 16, 5}), string([]byte{16, 129, 0, 10, 0}), api.Fine)
	cutBy(t, s, 0, whole+"\x18\x07", 1, []string{"a.b"}, string([]byte{10, 2, 16, 5}), string([]byte{16, 129, 0, 10, 0, 24, 7}), api.Fine)
}
