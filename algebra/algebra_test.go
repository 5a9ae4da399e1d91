package algebra_test

import (
	"math"
	"slices"
	"strconv"
	"strings"
	"testing"

	"darning/algebra"
	"darning/api"
	"darning/mask"
	"darning/tree"
)

// messages is a schema of three, whose fields stand in no order: 0 and 1 have the same numbers for fields of unlike sorts; 2 has none.
func messages() api.Schema {
	return api.Schema{
		{Name: "m", Fields: []api.Field{
			{Name: "n", Number: 3, Kind: api.Sub, Of: 1},
			{Name: "l", Number: 2, Kind: api.Sint64, Repeated: true},
			{Name: "e", Number: 16, Kind: api.Sub, Of: 2},
			{Name: "i", Number: 1, Kind: api.Int32},
			{Name: "t", Number: 6, Kind: api.String, Repeated: true},
			{Name: "m", Number: 5, Kind: api.Sub},
			{Name: "s", Number: 4, Kind: api.String},
			{Name: "r", Number: 7, Kind: api.Sub, Repeated: true, Of: 1},
		}},
		{Name: "n", Fields: []api.Field{
			{Name: "y", Number: 7, Kind: api.Bytes},
			{Name: "n", Number: 2, Kind: api.Sub, Of: 1},
			{Name: "o", Number: 3, Kind: api.Bool},
			{Name: "x", Number: 5, Kind: api.Fixed32, Repeated: true, Packed: true},
			{Name: "r", Number: 1, Kind: api.Sub, Repeated: true},
			{Name: "m", Number: 4, Kind: api.Sub},
			{Name: "b", Number: 16, Kind: api.Bytes, Repeated: true},
		}},
		{Name: "e"},
	}
}

// top is beyond the numbers of all fields.
const top = 18

// ills are schemas that aren't right.
func ills() []api.Schema {
	double, of, name := messages(), messages(), messages()
	double[1].Fields[2].Number = 5
	of[0].Fields[0].Of = 3
	name[2].Name = "1"
	return []api.Schema{nil, {}, make(api.Schema, 1), make(api.Schema, 101), double, of, name}
}

// show a meaning as a text that no other one has; slices without things are all alike.
func show(x tree.Msg) string {
	var b strings.Builder
	showIn(&b, x)
	return b.String()
}

func showIn(b *strings.Builder, x tree.Msg) {
	b.WriteByte('(')
	for _, v := range x.Values {
		b.WriteString(" " + strconv.Itoa(v.Number) + ":")
		for _, w := range v.Words {
			b.WriteString("w" + strconv.FormatUint(w, 10))
		}
		for _, t := range v.Texts {
			b.WriteString("t" + strconv.Quote(t))
		}
		for _, sub := range v.Subs {
			b.WriteByte('s')
			showIn(b, sub)
		}
	}
	for _, u := range x.Unknown {
		b.WriteString("?" + strconv.Quote(u))
	}
	b.WriteByte(')')
}

// showWays as a text.
func showWays(ways [][]int) string {
	var b strings.Builder
	for _, way := range ways {
		b.WriteByte('[')
		for _, n := range way {
			b.WriteString(" " + strconv.Itoa(n))
		}
		b.WriteByte(']')
	}
	return b.String()
}

// showSchema as a text.
func showSchema(s api.Schema) string {
	var b strings.Builder
	for _, m := range s {
		b.WriteString(m.Name + ":")
		for _, f := range m.Fields {
			b.WriteString(f.Name + " " + strconv.Itoa(f.Number) + " " + strconv.Itoa(f.Kind) + strconv.FormatBool(f.Repeated) + strconv.FormatBool(f.Packed) + strconv.Itoa(f.Of) + ",")
		}
	}
	return b.String()
}

// values is a meaning of these.
func values(l ...tree.Value) tree.Msg { return tree.Msg{Values: l} }

// unknown is a meaning of these unknown records alone.
func unknown(l ...string) tree.Msg { return tree.Msg{Unknown: l} }

// words, texts and subs are values.
func words(number int, l ...uint64) tree.Value  { return tree.Value{Number: number, Words: l} }
func texts(number int, l ...string) tree.Value  { return tree.Value{Number: number, Texts: l} }
func subs(number int, l ...tree.Msg) tree.Value { return tree.Value{Number: number, Subs: l} }

// things are how many a value has.
func things(v tree.Value) int { return len(v.Words) + len(v.Texts) + len(v.Subs) }

// valueOf a number; one without things, if there is none.
func valueOf(x tree.Msg, number int) tree.Value {
	for _, v := range x.Values {
		if v.Number == number {
			return v
		}
	}
	return tree.Value{}
}

// fieldOf a number; one of no kind, if there is none.
func fieldOf(s api.Schema, message, number int) api.Field {
	for _, f := range s[message].Fields {
		if f.Number == number {
			return f
		}
	}
	return api.Field{}
}

// isOne: is it a field of one message?
func isOne(f api.Field) bool { return f.Kind == api.Sub && !f.Repeated }

// joined tells by the chapter's words what two meanings are, joined.
func joined(s api.Schema, message int, a, b tree.Msg) tree.Msg {
	var x tree.Msg
	for n := range top {
		v, w, f := valueOf(a, n), valueOf(b, n), fieldOf(s, message, n)
		switch {
		case things(v) == 0 && things(w) == 0:
		case things(w) == 0:
			x.Values = append(x.Values, v)
		case things(v) == 0 || !f.Repeated && f.Kind != api.Sub:
			x.Values = append(x.Values, w)
		case f.Repeated:
			x.Values = append(x.Values, tree.Value{Number: n, Words: append(slices.Clone(v.Words), w.Words...), Texts: append(slices.Clone(v.Texts), w.Texts...), Subs: append(slices.Clone(v.Subs), w.Subs...)})
		default:
			x.Values = append(x.Values, subs(n, joined(s, f.Of, v.Subs[0], w.Subs[0])))
		}
	}
	x.Unknown = append(slices.Clone(a.Unknown), b.Unknown...)
	return x
}

// How much of what is at a way other ways mean.
const (
	nothing = iota
	some
	all
)

// meant tells how much of what is at a way these ways mean.
func meant(ways [][]int, way []int) int {
	much := nothing
	for _, w := range ways {
		switch {
		case len(w) == 0:
		case len(w) <= len(way) && slices.Equal(w, way[:len(w)]):
			return all
		case len(w) > len(way) && slices.Equal(w[:len(way)], way):
			much = some
		}
	}
	return much
}

// kept tells by the chapter's words what is kept of a meaning, that is at a way, by these ways.
func kept(s api.Schema, message int, x tree.Msg, at []int, ways [][]int) tree.Msg {
	var y tree.Msg
	for _, v := range x.Values {
		way, f := append(slices.Clone(at), v.Number), fieldOf(s, message, v.Number)
		switch much := meant(ways, way); {
		case much == all:
			y.Values = append(y.Values, v)
		case much == some && isOne(f):
			y.Values = append(y.Values, subs(v.Number, kept(s, f.Of, v.Subs[0], way, ways)))
		}
	}
	return y
}

// left tells by the chapter's words what is left of a meaning, that is at a way, by these ways.
func left(s api.Schema, message int, x tree.Msg, at []int, ways [][]int) tree.Msg {
	y := unknown(x.Unknown...)
	for _, v := range x.Values {
		way, f := append(slices.Clone(at), v.Number), fieldOf(s, message, v.Number)
		switch much := meant(ways, way); {
		case much == all:
		case much == some && isOne(f):
			y.Values = append(y.Values, subs(v.Number, left(s, f.Of, v.Subs[0], way, ways)))
		default:
			y.Values = append(y.Values, v)
		}
	}
	return y
}

// put tells what a meaning is with a value at a way: what is left of it by the way, and the value there, joined.
func put(s api.Schema, root int, x tree.Msg, way []int, v tree.Value) tree.Msg {
	rest := left(s, root, x, nil, [][]int{way})
	if things(v) == 0 {
		return rest
	}
	v.Number = way[len(way)-1]
	alone := values(v)
	for i := len(way) - 2; i >= 0; i-- {
		alone = values(subs(way[i], alone))
	}
	return joined(s, root, rest, alone)
}

// leads tells to which field a way leads, if it is a path's.
func leads(s api.Schema, root int, way []int) (api.Field, bool) {
	f := api.Field{Kind: api.Sub, Of: root}
	for _, n := range way {
		if !isOne(f) {
			return api.Field{}, false
		}
		f = fieldOf(s, f.Of, n)
		if f.Kind == 0 {
			return api.Field{}, false
		}
	}
	return f, len(way) > 0 && len(way) < 66
}

// lookup tells the value at a path's way; one without things, if there is none.
func lookup(x tree.Msg, way []int) tree.Value {
	v := subs(0, x)
	for _, n := range way {
		if len(v.Subs) == 0 {
			return tree.Value{}
		}
		v = valueOf(v.Subs[0], n)
	}
	return v
}

// bare is a meaning without unknown records.
func bare(x tree.Msg) tree.Msg {
	var y tree.Msg
	for _, v := range x.Values {
		var l []tree.Msg
		for _, sub := range v.Subs {
			l = append(l, bare(sub))
		}
		v.Subs = l
		y.Values = append(y.Values, v)
	}
	return y
}

// dice are numbers that look like chance, and are the same each time.
type dice uint64

// under tells the next one, from 0 to n - 1.
func (d *dice) under(n int) int {
	*d = *d*6364136223846793005 + 1442695040888963407
	return int(uint64(*d) >> 33 % uint64(n))
}

// meaning of a message, of up to so many levels.
func (d *dice) meaning(s api.Schema, message, levels int) tree.Msg {
	strangers := []string{"\xa0\x01\x07", "\xa2\x01\x01a", "\xa0\x01\x08", "\x5d\x00\x00\x00\x00", "\x58\x80\x00"}
	var x tree.Msg
	for n := range top {
		f := fieldOf(s, message, n)
		if f.Kind == 0 || d.under(3) == 0 {
			continue
		}
		if v := d.value(s, f, levels); things(v) > 0 {
			x.Values = append(x.Values, v)
		}
	}
	for range d.under(3) {
		x.Unknown = append(x.Unknown, strangers[d.under(len(strangers))])
	}
	return x
}

// value of a field.
func (d *dice) value(s api.Schema, f api.Field, levels int) tree.Value {
	v, count := tree.Value{Number: f.Number}, 1
	if f.Repeated {
		count += d.under(3)
	}
	for range count {
		switch {
		case f.Kind == api.Sub && levels > 0:
			v.Subs = append(v.Subs, d.meaning(s, f.Of, d.under(levels)))
		case f.Kind == api.Sub:
		case f.Kind == api.String || f.Kind == api.Bytes:
			v.Texts = append(v.Texts, strings.Repeat("x", d.under(3)))
		default:
			v.Words = append(v.Words, uint64(d.under(2)))
		}
	}
	return v
}

// pool is a message's meanings: of nothing, and of all sorts.
func pool(s api.Schema, message, count int) []tree.Msg {
	d := dice(message)
	l := []tree.Msg{{}, {Values: []tree.Value{}, Unknown: []string{}}, unknown("\xa0\x01\x07")}
	for i := len(l); i < count; i++ {
		l = append(l, d.meaning(s, message, i%5))
	}
	return l
}

// grow puts something behind each list of a meaning, but keeps none of it: where two lists share memory, it is seen in the other.
func grow(x tree.Msg) {
	_, _ = append(x.Values, texts(99, "grown")), append(x.Unknown, "grown")
	for _, v := range x.Values {
		_, _, _ = append(v.Words, 99), append(v.Texts, "grown"), append(v.Subs, unknown("grown"))
		for _, sub := range v.Subs {
			grow(sub)
		}
	}
}

// spoil changes all that a meaning has.
func spoil(x tree.Msg) {
	for i := range x.Values {
		v := &x.Values[i]
		v.Number += 1000
		for j := range v.Words {
			v.Words[j]++
		}
		for j := range v.Texts {
			v.Texts[j] += "!"
		}
		for j := range v.Subs {
			spoil(v.Subs[j])
			v.Subs[j] = unknown("spoilt")
		}
	}
	for i := range x.Unknown {
		x.Unknown[i] += "!"
	}
}

// call is something that is asked with these meanings, and what it must tell.
type call struct {
	name string
	in   []tree.Msg
	ask  func() (tree.Msg, api.Code)
	want tree.Msg
	why  api.Code
}

// inputs of a call as a text.
func (c call) inputs() string { return show(values(subs(0, c.in...))) }

// check a call: what it tells; that what it was handed stays as it is, and shares no memory with what it tells; nor do two lists of that.
func (c call) check(t *testing.T) {
	t.Helper()
	then, want := c.inputs(), show(c.want)
	x, e := c.ask()
	if got := show(x); got != want || e != c.why {
		t.Fatalf("%s of %s: %s, %v, not %s, %v", c.name, then, got, e, want, c.why)
	}
	if now := c.inputs(); now != then {
		t.Fatalf("R4: %s: %s was changed to %s", c.name, then, now)
	}
	grow(x)
	if got := show(x); got != want {
		t.Fatalf("R4: %s: two lists of %s share memory: %s", c.name, want, got)
	}
	spoil(x)
	if now := c.inputs(); now != then {
		t.Fatalf("R4: %s: what it told was changed, and so was %s to %s", c.name, then, now)
	}
}

// join, keep, leave, set, at and plain check one call each.
func join(t *testing.T, s api.Schema, root int, a, b, want tree.Msg, why api.Code) {
	t.Helper()
	call{"P15.1: Join", []tree.Msg{a, b}, func() (tree.Msg, api.Code) { return algebra.Join(s, root, a, b) }, want, why}.check(t)
}
func keep(t *testing.T, s api.Schema, root int, x tree.Msg, ways [][]int, want tree.Msg, why api.Code) {
	t.Helper()
	call{"P15.1: Keep by " + showWays(ways), []tree.Msg{x}, func() (tree.Msg, api.Code) { return algebra.Keep(s, root, x, mask.Mask{Ways: ways}) }, want, why}.check(t)
}
func leave(t *testing.T, s api.Schema, root int, x tree.Msg, ways [][]int, want tree.Msg, why api.Code) {
	t.Helper()
	call{"P15.1: Leave by " + showWays(ways), []tree.Msg{x}, func() (tree.Msg, api.Code) { return algebra.Leave(s, root, x, mask.Mask{Ways: ways}) }, want, why}.check(t)
}
func set(t *testing.T, s api.Schema, root int, x tree.Msg, way []int, v tree.Value, want tree.Msg, why api.Code) {
	t.Helper()
	call{"P15.2: Set at " + showWays([][]int{way}), []tree.Msg{x, values(v)}, func() (tree.Msg, api.Code) { return algebra.Set(s, root, x, way, v) }, want, why}.check(t)
}
func at(t *testing.T, s api.Schema, root int, x tree.Msg, way []int, want tree.Value, why api.Code) {
	t.Helper()
	ask := func() (tree.Msg, api.Code) {
		v, e := algebra.At(s, root, x, way)
		return values(v), e
	}
	call{"P15.2: At " + showWays([][]int{way}), []tree.Msg{x}, ask, values(want), why}.check(t)
}
func plain(t *testing.T, s api.Schema, root int, x, want tree.Msg, why api.Code) {
	t.Helper()
	call{"P15.2: Plain", []tree.Msg{x}, func() (tree.Msg, api.Code) { return algebra.Plain(s, root, x) }, want, why}.check(t)
}

// P15.1, P15.3: all pairs of meanings, joined, are right; the same ones twice, too.
func TestJoin(t *testing.T) {
	s := messages()
	for root := range s {
		l := pool(s, root, 70)
		for _, a := range l {
			for _, b := range l {
				want := joined(s, root, a, b)
				join(t, s, root, a, b, want, api.Fine)
				if !tree.Right(s, root, want) {
					t.Fatalf("%s, that was to be told, isn't right", show(want))
				}
			}
		}
	}
	if showSchema(s) != showSchema(messages()) {
		t.Error("R4: the schema was changed")
	}
}

// P15.1: what becomes of each sort of field, written out.
func TestJoinFields(t *testing.T) {
	s := messages()
	sub := func(i uint64, u string) tree.Msg {
		return tree.Msg{Values: []tree.Value{words(1, i)}, Unknown: []string{u}}
	}
	for _, c := range []struct{ a, b, want tree.Msg }{
		{values(words(1, 5)), values(words(1, 0)), values(words(1, 0))},
		{values(texts(4, "a")), values(texts(4, "")), values(texts(4, ""))},
		{values(words(2, 1, 2)), values(words(2, 2, 0)), values(words(2, 1, 2, 2, 0))},
		{values(texts(6, "b")), values(texts(6, "a", "b")), values(texts(6, "b", "a", "b"))},
		{values(subs(5, sub(1, "\x50\x01"))), values(subs(5, sub(2, "\x50\x02"))), values(subs(5, tree.Msg{Values: []tree.Value{words(1, 2)}, Unknown: []string{"\x50\x01", "\x50\x02"}}))},
		{values(subs(5, sub(1, "\x50\x01"))), values(subs(5, tree.Msg{})), values(subs(5, sub(1, "\x50\x01")))},
		{values(subs(16, unknown("\x08\x01"))), values(subs(16, unknown("\x08\x00"))), values(subs(16, unknown("\x08\x01", "\x08\x00")))},
		{values(subs(7, tree.Msg{}, unknown("\x50\x01"))), values(subs(7, tree.Msg{})), values(subs(7, tree.Msg{}, unknown("\x50\x01"), tree.Msg{}))},
		{values(words(2, 1), texts(6, "a")), values(words(1, 3), texts(4, "s"), subs(16, tree.Msg{})), values(words(1, 3), words(2, 1), texts(4, "s"), texts(6, "a"), subs(16, tree.Msg{}))},
		{values(subs(3, values(words(5, 1)))), values(subs(3, values(words(5, 2), texts(7, "a")))), values(subs(3, values(words(5, 1, 2), texts(7, "a"))))},
		{unknown("\x50\x02", "\x50\x01"), unknown("\x50\x01"), unknown("\x50\x02", "\x50\x01", "\x50\x01")},
	} {
		join(t, s, 0, c.a, c.b, c.want, api.Fine)
		join(t, s, 0, values(subs(5, c.a)), values(subs(5, c.b)), values(subs(5, c.want)), api.Fine)
		join(t, s, 1, values(subs(1, c.a)), values(subs(1, c.b)), values(subs(1, c.a, c.b)), api.Fine)
	}
}

// P15.3: joined is joined, however put in brackets; with nothing, as it was.
func TestBrackets(t *testing.T) {
	s := messages()
	for root := range s {
		two := func(a, b tree.Msg) tree.Msg {
			x, e := algebra.Join(s, root, a, b)
			if e != api.Fine {
				t.Fatalf("P15.1: Join of %s, %s: %v", show(a), show(b), e)
			}
			return x
		}
		l := pool(s, root, 14)
		for _, a := range l {
			if x, y := two(a, tree.Msg{}), two(tree.Msg{}, a); show(x) != show(a) || show(y) != show(a) {
				t.Fatalf("P15.3: %s with nothing: %s, %s", show(a), show(x), show(y))
			}
			for _, b := range l {
				for _, c := range l {
					if x, y := two(two(a, b), c), two(a, two(b, c)); show(x) != show(y) {
						t.Fatalf("P15.3: %s, %s, %s: %s, and %s", show(a), show(b), show(c), show(x), show(y))
					}
				}
			}
		}
	}
}

// allWays are all ways of up to so many of these numbers.
func allWays(numbers []int, most int) [][]int {
	l := [][]int{{}}
	for i := 0; i < len(l); i++ {
		if len(l[i]) < most {
			for _, n := range numbers {
				l = append(l, append(slices.Clone(l[i]), n))
			}
		}
	}
	return l
}

// P15.1, P15.3: what is kept and left by many rows of ways, in any order, under each other and twice, of paths and of none; joined it is the whole again.
func TestMasks(t *testing.T) {
	s, d := messages(), dice(7)
	ways := append(allWays([]int{1, 2, 3, 4, 5, 7, 16}, 3), []int{0}, []int{-1}, []int{5, 0}, []int{5, -5}, []int{5, 5, 5, 5, 5}, []int{3, 2, 2, 2, 5}, []int{9}, []int{math.MaxInt, math.MinInt})
	for root := range s {
		l := pool(s, root, 60)
		for i := range 4 * len(ways) {
			var row [][]int
			for range i % 5 {
				row = append(row, ways[d.under(len(ways))])
			}
			if i < len(ways) {
				row = [][]int{ways[i]}
			}
			for range 2 {
				cutBoth(t, s, root, l[d.under(len(l))], row)
			}
		}
	}
}

// cutBoth checks Keep and Leave of a meaning by ways, and both together.
func cutBoth(t *testing.T, s api.Schema, root int, x tree.Msg, ways [][]int) {
	t.Helper()
	then := showWays(ways)
	keep(t, s, root, x, ways, kept(s, root, x, nil, ways), api.Fine)
	leave(t, s, root, x, ways, left(s, root, x, nil, ways), api.Fine)
	if now := showWays(ways); now != then {
		t.Fatalf("R4: %s was changed to %s", then, now)
	}
	m := mask.Mask{Ways: ways}
	a, _ := algebra.Keep(s, root, x, m)
	b, _ := algebra.Leave(s, root, x, m)
	for _, y := range [][2]tree.Msg{{a, b}, {b, a}} {
		if z, e := algebra.Join(s, root, y[0], y[1]); show(z) != show(x) || e != api.Fine {
			t.Fatalf("P15.3: what is kept and left of %s by %s, joined: %s, %v", show(x), then, show(z), e)
		}
	}
}

// P15.1: what becomes of each sort of field, meant as a whole, in part, or not, written out.
func TestMaskFields(t *testing.T) {
	s := messages()
	sub := tree.Msg{Values: []tree.Value{words(1, 7), words(2, 1, 2)}, Unknown: []string{"\x50\x01"}}
	x := tree.Msg{Values: []tree.Value{words(1, 5), words(2, 1, 2), subs(3, values(words(3, 1))), texts(4, "a"), subs(5, sub), texts(6, "a", ""), subs(7, values(words(3, 1)), unknown("\x50\x01")), subs(16, unknown("\x08\x01"))}, Unknown: []string{"\x50\x02"}}
	without := func(i int) tree.Msg {
		return tree.Msg{Values: slices.Delete(slices.Clone(x.Values), i, i+1), Unknown: x.Unknown}
	}
	for i, v := range x.Values {
		keep(t, s, 0, x, [][]int{{v.Number}}, values(v), api.Fine)
		leave(t, s, 0, x, [][]int{{v.Number}}, without(i), api.Fine)
		keep(t, s, 0, x, [][]int{{v.Number, 1}, {v.Number, 2}, {v.Number}}, values(v), api.Fine)
		leave(t, s, 0, x, [][]int{{v.Number, 1}, {v.Number, 2}, {v.Number}}, without(i), api.Fine)
		if !isOne(fieldOf(s, 0, v.Number)) {
			keep(t, s, 0, x, [][]int{{v.Number, 1}, {v.Number, 3}}, tree.Msg{}, api.Fine)
			leave(t, s, 0, x, [][]int{{v.Number, 1}, {v.Number, 3}}, x, api.Fine)
		}
	}
	with := func(i int, y tree.Msg) tree.Msg {
		l := slices.Clone(x.Values)
		l[i] = subs(l[i].Number, y)
		return tree.Msg{Values: l, Unknown: x.Unknown}
	}
	for _, c := range []struct {
		ways       [][]int
		kept, left tree.Msg
	}{
		{[][]int{{5, 1}}, values(subs(5, values(words(1, 7)))), with(4, tree.Msg{Values: sub.Values[1:], Unknown: sub.Unknown})},
		{[][]int{{5, 2}, {5, 1}}, values(subs(5, values(sub.Values...))), with(4, unknown(sub.Unknown...))},
		{[][]int{{5, 4}}, values(subs(5, tree.Msg{})), x},
		{[][]int{{5, 99}, {5, 10, 1}}, values(subs(5, tree.Msg{})), x},
		{[][]int{{16, 1}}, values(subs(16, tree.Msg{})), x},
		{[][]int{{3, 3}, {1, 1}}, values(subs(3, values(words(3, 1)))), with(2, tree.Msg{})},
		{[][]int{{3, 3, 1}}, values(subs(3, tree.Msg{})), x},
		{nil, tree.Msg{}, x}, {[][]int{{}}, tree.Msg{}, x}, {[][]int{nil, {0}, {-5}, {10}}, tree.Msg{}, x},
		{[][]int{{}, {1}}, values(words(1, 5)), without(0)},
		{[][]int{{1}, {2}, {3}, {4}, {5}, {6}, {7}, {16}}, values(x.Values...), unknown(x.Unknown...)},
	} {
		keep(t, s, 0, x, c.ways, c.kept, api.Fine)
		leave(t, s, 0, x, c.ways, c.left, api.Fine)
	}
}

// candidates are values of all sorts, for fields of all sorts.
func candidates() []tree.Value {
	mixed := words(1, 1)
	mixed.Texts = []string{"a"}
	return []tree.Value{
		{}, {Number: 5}, {Number: -1, Words: []uint64{}, Texts: []string{}, Subs: []tree.Msg{}},
		words(0, 1), words(1, 0), words(2, 2), words(-3, 1<<40), words(2, 1, 0), words(1, 0, 1<<40),
		texts(4, ""), texts(1, "a"), texts(99, "\xff"), texts(6, "a", "b"), texts(6, "a", "\xff"),
		subs(5, tree.Msg{}), subs(0, unknown("\x50\x01")), subs(5, unknown("\x08\x01")), subs(5, values(words(1, 9))), subs(5, values(words(3, 1))), subs(7, tree.Msg{}, values(words(3, 1))), subs(1, values(words(1, 9)), tree.Msg{}),
		mixed,
	}
}

// enough: has each of these been told often enough to show something?
func enough(t *testing.T, count map[api.Code]int, l ...api.Code) {
	t.Helper()
	for _, why := range l {
		if count[why] < 1000 {
			t.Errorf("only %d told %v", count[why], why)
		}
	}
}

// P15.2: values of all sorts set at all ways of up to three numbers, of paths and of none; and what is there then.
func TestSet(t *testing.T) {
	s := messages()
	count := map[api.Code]int{}
	for root := range s {
		l := pool(s, root, 60)
		for i, way := range allWays([]int{0, 1, 2, 3, 4, 5, 6, 7, 16}, 3) {
			few := l[i%len(l):][:1]
			if _, ok := leads(s, root, way); ok {
				few = l[i%2*30:][:30]
			}
			for j, v := range candidates() {
				for k := j % 4; k < len(few); k += 4 {
					count[setBy(t, s, root, few[k], way, v)]++
				}
			}
		}
	}
	enough(t, count, api.Fine, api.Mask, api.Form)
}

// setBy checks Set of a value at a way, of a path or of none, and tells what it must tell.
func setBy(t *testing.T, s api.Schema, root int, x tree.Msg, way []int, v tree.Value) api.Code {
	t.Helper()
	f, ok := leads(s, root, way)
	switch {
	case !ok:
		set(t, s, root, x, way, v, tree.Msg{}, api.Mask)
		return api.Mask
	case things(v) > 0 && !tree.Fits(f, s, v):
		set(t, s, root, x, way, v, tree.Msg{}, api.Form)
		return api.Form
	}
	set(t, s, root, x, way, v, put(s, root, x, way, v), api.Fine)
	setAgain(t, s, root, x, way, v)
	return api.Fine
}

// setAgain checks what is at a way behind Set, that it is right, and that the same Set once more changes nothing.
func setAgain(t *testing.T, s api.Schema, root int, x tree.Msg, way []int, v tree.Value) {
	t.Helper()
	y, _ := algebra.Set(s, root, x, way, v)
	if !tree.Right(s, root, y) {
		t.Fatalf("P15.2: Set at %v in %s: %s isn't right", way, show(x), show(y))
	}
	set(t, s, root, y, way, v, y, api.Fine)
	if things(v) == 0 {
		at(t, s, root, y, way, tree.Value{}, api.None)
		return
	}
	v.Number = way[len(way)-1]
	at(t, s, root, y, way, v, api.Fine)
}

// P15.2: what Set puts and takes out, written out.
func TestSetFields(t *testing.T) {
	s := messages()
	u := []string{"\x50\x01"}
	x := tree.Msg{Values: []tree.Value{words(1, 5), subs(5, tree.Msg{Values: []tree.Value{words(1, 7)}, Unknown: u}), texts(6, "a")}, Unknown: u}
	with := func(l ...tree.Value) tree.Msg { return tree.Msg{Values: l, Unknown: u} }
	one, five, six := x.Values[0], x.Values[1], x.Values[2]
	for _, c := range []struct {
		way  []int
		v    tree.Value
		want tree.Msg
	}{
		{[]int{1}, words(1, 0), with(words(1, 0), five, six)},
		{[]int{1}, words(6, 4), with(words(1, 4), five, six)},
		{[]int{1}, tree.Value{Number: 6}, with(five, six)},
		{[]int{2}, words(2, 3, 3), with(one, words(2, 3, 3), five, six)},
		{[]int{2}, tree.Value{}, x},
		{[]int{6}, texts(0, "b"), with(one, five, texts(6, "b"))},
		{[]int{16}, subs(0, tree.Msg{}), with(one, five, six, subs(16, tree.Msg{}))},
		{[]int{5}, subs(5, tree.Msg{}), with(one, subs(5, tree.Msg{}), six)},
		{[]int{5}, subs(5, values(words(2, 1))), with(one, subs(5, values(words(2, 1))), six)},
		{[]int{5}, tree.Value{}, with(one, six)},
		{[]int{5, 1}, words(1, 8), with(one, subs(5, with(words(1, 8))), six)},
		{[]int{5, 1}, tree.Value{}, with(one, subs(5, with()), six)},
		{[]int{5, 2}, words(0, 8), with(one, subs(5, with(words(1, 7), words(2, 8))), six)},
		{[]int{5, 3, 3}, words(0, 1), with(one, subs(5, with(words(1, 7), subs(3, values(words(3, 1))))), six)},
		{[]int{3, 2, 7}, texts(0, ""), with(one, subs(3, values(subs(2, values(texts(7, ""))))), five, six)},
		{[]int{3, 2, 7}, tree.Value{}, x},
		{[]int{3, 2}, tree.Value{}, x},
		{[]int{3}, tree.Value{}, x},
		{[]int{5, 3, 3}, tree.Value{}, x},
		{[]int{5, 5, 5, 5}, tree.Value{}, x},
	} {
		set(t, s, 0, x, c.way, c.v, c.want, api.Fine)
	}
}

// P15.2: the values at all ways of up to four numbers, of paths and of none.
func TestAt(t *testing.T) {
	s := messages()
	count := map[api.Code]int{}
	for root := range s {
		l := pool(s, root, 60)
		for i, way := range allWays([]int{0, 1, 2, 3, 4, 5, 7, 16}, 4) {
			_, ok := leads(s, root, way)
			if !ok {
				at(t, s, root, l[i%len(l)], way, tree.Value{}, api.Mask)
				count[api.Mask]++
				continue
			}
			for _, x := range l {
				want, why := lookup(x, way), api.Fine
				if things(want) == 0 {
					why = api.None
				}
				at(t, s, root, x, way, want, why)
				count[why]++
			}
		}
	}
	enough(t, count, api.Fine, api.Mask, api.None)
}

// P15.2: no unknown records, wherever they lie; all else stays.
func TestPlain(t *testing.T) {
	s := messages()
	for root := range s {
		for _, x := range pool(s, root, 500) {
			plain(t, s, root, x, bare(x), api.Fine)
			plain(t, s, root, bare(x), bare(x), api.Fine)
		}
	}
	u := []string{"\x50\x01", "\x50\x02"}
	in := func(l ...tree.Value) tree.Msg { return tree.Msg{Values: l, Unknown: u} }
	x := in(words(1, 5), subs(3, in(subs(1, in(words(1, 1)), in()))), subs(5, in(subs(5, in()))), subs(7, in(), in(words(3, 1))))
	plain(t, s, 0, x, values(words(1, 5), subs(3, values(subs(1, values(words(1, 1)), values()))), subs(5, values(subs(5, values()))), subs(7, values(), values(words(3, 1)))), api.Fine)
}

// wrongs are no meanings of the message 0.
func wrongs() []tree.Msg {
	return []tree.Msg{
		values(words(1)), values(words(1, 1, 2)), values(words(1, 1<<32)), values(texts(1, "a")), values(words(9, 1)), values(words(0, 1)), values(words(-1, 1)), values(words(2, 1), words(1, 1)), values(words(1, 1), words(1, 1)), values(texts(4, "\xff")),
		values(subs(5, tree.Msg{}, tree.Msg{})), values(subs(5, values(words(1)))), values(subs(7, tree.Msg{}, values(words(3, 2)))), values(subs(16, values(words(1, 1)))),
		unknown(""), unknown("\x08\x01"), unknown("\x50"), unknown("\x50\x01\x50\x01"), values(subs(5, unknown("\x08\x01"))),
	}
}

// edges are a number's neighbours, and the ends.
func edges(size int) []int {
	return []int{math.MinInt, -2, -1, 0, size - 1, size, size + 1, 64, 255, 256, math.MaxInt}
}

// P15.1, P15.2, R2: of all that is wrong at once what the chapter names first is told, and nothing else.
func TestErrors(t *testing.T) {
	fine := []tree.Msg{{}, values(words(1, 1), subs(5, values(words(1, 2))))}
	for i, s := range append([]api.Schema{messages()}, ills()...) {
		for _, root := range edges(len(messages())) {
			for j, x := range append(slices.Clone(fine), wrongs()...) {
				why := api.Fine
				switch {
				case i > 0:
					why = api.Ill
				case root < 0 || root >= len(s):
					why = api.Arg
				case j >= len(fine) || root != 0 && j > 0:
					why = api.Form
				}
				if why == api.Form && root != 0 && tree.Right(s, root, x) {
					continue
				}
				allErrors(t, s, root, x, why)
			}
		}
	}
}

// allErrors checks all calls of a meaning of which this error is told, whatever else is wrong; if none is, what is told of other things.
func allErrors(t *testing.T, s api.Schema, root int, x tree.Msg, why api.Code) {
	t.Helper()
	same := x
	if why != api.Fine {
		same = tree.Msg{}
	}
	join(t, s, root, x, tree.Msg{}, same, why)
	join(t, s, root, tree.Msg{}, x, same, why)
	for _, ways := range [][][]int{nil, {{}}, {{99}}, {{1, 1}}} {
		keep(t, s, root, x, ways, tree.Msg{}, why)
		leave(t, s, root, x, ways, same, why)
	}
	if why != api.Fine {
		keep(t, s, root, x, [][]int{{1}, {5}}, tree.Msg{}, why)
		leave(t, s, root, x, [][]int{{1}, {5}}, tree.Msg{}, why)
	}
	plain(t, s, root, x, same, why)
	wrongWay := why
	if why == api.Fine {
		wrongWay = api.Mask
	}
	for _, way := range [][]int{nil, {}, {0}, {-1}, {9}, {1, 1}, {7, 3}, {2, 1}, {5, 0}, {math.MinInt}, {math.MaxInt, 1}} {
		for _, v := range []tree.Value{{}, words(1, 1), texts(1, "\xff"), subs(5, unknown(""))} {
			set(t, s, root, x, way, v, tree.Msg{}, wrongWay)
		}
		at(t, s, root, x, way, tree.Value{}, wrongWay)
	}
	if why == api.Fine && root == 0 {
		for _, way := range [][]int{{1}, {5, 1}, {3, 3}} {
			for _, v := range []tree.Value{words(1, 1, 1), texts(1, "a"), words(1, 1<<40), subs(1, tree.Msg{})} {
				set(t, s, root, x, way, v, tree.Msg{}, api.Form)
			}
		}
		at(t, s, root, x, []int{4}, tree.Value{}, api.None)
		at(t, s, root, x, []int{3, 3}, tree.Value{}, api.None)
		at(t, s, root, x, []int{5, 5, 1}, tree.Value{}, api.None)
	}
	if why != api.Fine {
		for _, v := range []tree.Value{{}, words(1, 1), texts(1, "\xff")} {
			set(t, s, root, x, []int{1}, v, tree.Msg{}, why)
		}
		at(t, s, root, x, []int{4}, tree.Value{}, why)
	}
}

// nested is a meaning in so many levels of the field 5 of the message 0.
func nested(x tree.Msg, levels int) tree.Msg {
	for range levels {
		x = values(subs(5, x))
	}
	return x
}

// fives is a way of so many of the field 5, and then these.
func fives(count int, more ...int) []int {
	return append(slices.Repeat([]int{5}, count), more...)
}

// P15.2: a path has up to 65 names, so a way has up to 65 numbers.
func TestLongWays(t *testing.T) {
	s := messages()
	x := nested(values(words(1, 1), words(2, 3)), 64)
	set(t, s, 0, x, fives(64, 1), words(1, 2), nested(values(words(1, 2), words(2, 3)), 64), api.Fine)
	set(t, s, 0, x, fives(64, 1), tree.Value{}, nested(values(words(2, 3)), 64), api.Fine)
	set(t, s, 0, tree.Msg{}, fives(64, 1), words(1, 2), nested(values(words(1, 2)), 64), api.Fine)
	set(t, s, 0, tree.Msg{}, fives(65), subs(5, tree.Msg{}), nested(tree.Msg{}, 65), api.Fine)
	at(t, s, 0, x, fives(64, 1), words(1, 1), api.Fine)
	at(t, s, 0, x, fives(64, 4), tree.Value{}, api.None)
	at(t, s, 0, x, fives(65), tree.Value{}, api.None)
	y := nested(values(words(1, 1)), 65)
	for _, v := range []tree.Value{{}, words(1, 2), texts(1, "a")} {
		set(t, s, 0, y, fives(65, 1), v, tree.Msg{}, api.Mask)
		set(t, s, 0, y, fives(1<<16), v, tree.Msg{}, api.Mask)
	}
	at(t, s, 0, y, fives(65, 1), tree.Value{}, api.Mask)
	at(t, s, 0, y, fives(1<<16), tree.Value{}, api.Mask)
	at(t, s, 0, y, fives(65), subs(5, values(words(1, 1))), api.Fine)
	keep(t, s, 0, y, [][]int{fives(65, 1)}, y, api.Fine)
	leave(t, s, 0, y, [][]int{fives(65, 1)}, nested(tree.Msg{}, 65), api.Fine)
}

// R1: meanings as deep as the document's limit are worked on as all others.
func TestDeep(t *testing.T) {
	const deep = 1<<16 - 70
	s := messages()
	in := tree.Msg{Values: []tree.Value{words(1, 1), words(2, 2)}, Unknown: []string{"\x50\x01"}}
	x, way := nested(in, deep), [][]int{fives(deep, 2), fives(3, 1)}
	is := func(what string, y tree.Msg, e api.Code, want tree.Msg) {
		t.Helper()
		if e != api.Fine || !tree.Same(y, want) {
			t.Errorf("R1: %s of %d levels: %v", what, deep, e)
		}
	}
	y, e := algebra.Join(s, 0, x, x)
	is("P15.1: Join", y, e, nested(joined(s, 0, in, in), deep))
	y, e = algebra.Keep(s, 0, x, mask.Mask{Ways: way})
	is("P15.1: Keep", y, e, nested(values(words(2, 2)), deep))
	y, e = algebra.Leave(s, 0, x, mask.Mask{Ways: way})
	is("P15.1: Leave", y, e, nested(tree.Msg{Values: in.Values[:1], Unknown: in.Unknown}, deep))
	y, e = algebra.Set(s, 0, x, fives(65), subs(5, nested(in, deep)))
	is("P15.2: Set", y, e, nested(in, deep+65))
	y, e = algebra.Set(s, 0, x, fives(65), tree.Value{})
	is("P15.2: Set", y, e, nested(tree.Msg{}, 64))
	v, e := algebra.At(s, 0, x, fives(65))
	is("P15.2: At", values(v), e, nested(in, deep-64))
	y, e = algebra.Plain(s, 0, x)
	is("P15.2: Plain", y, e, nested(values(in.Values...), deep))
}

// R1: what lies in itself ends nowhere, so it is no meaning, and no value; yet each call ends.
func TestEndless(t *testing.T) {
	s := messages()
	l := make([]tree.Msg, 1)
	l[0] = values(words(1, 1), subs(5, l[0]))
	l[0].Values[1].Subs = l
	x := l[0]
	is := func(what string, y tree.Msg, e api.Code) {
		t.Helper()
		if e != api.Form || len(y.Values)+len(y.Unknown) > 0 {
			t.Errorf("%s of what has no end: %v", what, e)
		}
	}
	y, e := algebra.Join(s, 0, x, tree.Msg{})
	is("P15.1: Join", y, e)
	y, e = algebra.Join(s, 0, tree.Msg{}, x)
	is("P15.1: Join", y, e)
	y, e = algebra.Keep(s, 0, x, mask.Mask{Ways: [][]int{{1}}})
	is("P15.1: Keep", y, e)
	y, e = algebra.Leave(s, 0, x, mask.Mask{Ways: [][]int{{5}}})
	is("P15.1: Leave", y, e)
	y, e = algebra.Set(s, 0, x, []int{1}, words(1, 1))
	is("P15.2: Set", y, e)
	y, e = algebra.Set(s, 0, tree.Msg{}, []int{5}, x.Values[1])
	is("P15.2: Set", y, e)
	v, e := algebra.At(s, 0, x, []int{1})
	is("P15.2: At", tree.Msg{Values: []tree.Value{v}[:things(v)]}, e)
	y, e = algebra.Plain(s, 0, x)
	is("P15.2: Plain", y, e)
}

// R1: messages of the most fields, very long lists, and very many ways.
func TestMany(t *testing.T) {
	const many = 1 << 18
	m := api.Message{Name: "m", Fields: []api.Field{{Name: "m", Number: 250, Kind: api.Sub}}}
	var x, even, odd tree.Msg
	for n := 1; n < 200; n++ {
		m.Fields = append(m.Fields, api.Field{Name: "f" + strconv.Itoa(n), Number: n, Kind: api.Uint32, Repeated: n == 1})
		v := words(n, uint64(n))
		x.Values = append(x.Values, v)
		if n%2 == 0 {
			even.Values = append(even.Values, v)
		} else {
			odd.Values = append(odd.Values, v)
		}
	}
	s := api.Schema{m}
	join(t, s, 0, even, odd, x, api.Fine)
	join(t, s, 0, odd, even, x, api.Fine)
	ways := [][]int{}
	for n := range many {
		ways = append(ways, []int{250, 250, 2*n + 2})
	}
	y := values(subs(250, values(subs(250, x))))
	keep(t, s, 0, y, ways, values(subs(250, values(subs(250, even)))), api.Fine)
	slices.Reverse(ways)
	leave(t, s, 0, y, ways, values(subs(250, values(subs(250, odd)))), api.Fine)
	a, b := values(words(1, make([]uint64, many)...)), values(words(1, 7))
	c, e := algebra.Join(s, 0, a, b)
	if e != api.Fine || len(c.Values) != 1 || len(c.Values[0].Words) != many+1 || c.Values[0].Words[many] != 7 {
		t.Errorf("P15.1: Join of many words: %v", e)
	}
	u := unknown(slices.Repeat([]string{"\xc8\x10\x01"}, many)...)
	c, e = algebra.Join(s, 0, u, u)
	if e != api.Fine || len(c.Unknown) != 2*many {
		t.Errorf("P15.1: Join of many unknown records: %v", e)
	}
	plain(t, s, 0, u, tree.Msg{}, api.Fine)
}

// R6: nothing is kept: what is done to a schema, a meaning or ways between calls is seen.
func TestNothingIsKept(t *testing.T) {
	s, x, ways := messages(), values(words(2, 1)), [][]int{{2}}
	for range 2 {
		join(t, s, 0, x, x, values(words(2, 1, 1)), api.Fine)
		s[0].Fields[1].Repeated = false
		join(t, s, 0, x, x, x, api.Fine)
		keep(t, s, 0, x, ways, x, api.Fine)
		ways[0][0] = 1
		keep(t, s, 0, x, ways, tree.Msg{}, api.Fine)
		leave(t, s, 0, x, ways, x, api.Fine)
		x.Values[0].Words[0] = 3
		at(t, s, 0, x, []int{2}, words(2, 3), api.Fine)
		s[0].Fields[1].Repeated, ways[0][0], x.Values[0].Words[0] = true, 2, 1
	}
}

// P15.1, P15.2: the chapter's example, and those of the whole.
func TestExamples(t *testing.T) {
	s := messages()
	for root := range s {
		var ways [][]int
		for _, f := range s[root].Fields {
			ways = append(ways, []int{f.Number})
		}
		for _, x := range pool(s, root, 100) {
			leave(t, s, root, x, ways, unknown(x.Unknown...), api.Fine)
			keep(t, s, root, x, ways, values(x.Values...), api.Fine)
		}
	}
	s = api.Schema{{Name: "m", Fields: []api.Field{{Name: "a", Number: 1, Kind: api.Sub}, {Name: "b", Number: 2, Kind: api.Uint32}}}}
	b := func(w uint64) tree.Value { return words(2, w) }
	x := values(subs(1, values(b(5))), b(1))
	set(t, s, 0, values(b(1)), []int{1, 2}, words(0, 5), x, api.Fine)
	keep(t, s, 0, x, [][]int{{1, 2}}, values(subs(1, values(b(5)))), api.Fine)
	leave(t, s, 0, x, [][]int{{1, 2}}, values(subs(1, tree.Msg{}), b(1)), api.Fine)
	join(t, s, 0, values(b(1)), values(b(2)), values(b(2)), api.Fine)
	y := tree.Msg{Values: x.Values, Unknown: []string{"\x18\x07"}}
	set(t, s, 0, y, []int{2}, b(0), tree.Msg{Values: []tree.Value{x.Values[0], b(0)}, Unknown: y.Unknown}, api.Fine)
	leave(t, s, 0, y, [][]int{{1}}, tree.Msg{Values: []tree.Value{b(1)}, Unknown: y.Unknown}, api.Fine)
	keep(t, s, 0, y, [][]int{{1}, {2}}, x, api.Fine)
}
