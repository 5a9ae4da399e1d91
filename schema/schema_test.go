package schema_test

import (
	"math"
	"slices"
	"strconv"
	"strings"
	"testing"

	"darning/api"
	"darning/schema"
)

// sample is a right schema: all kinds, lists, packed ones, messages ahead, behind and in themselves.
func sample() api.Schema {
	first := api.Message{Name: "First"}
	for k := api.Int32; k <= api.Sub; k++ {
		first.Fields = append(first.Fields, api.Field{Name: "f" + strconv.Itoa(k), Number: 40 - k, Kind: k})
	}
	return api.Schema{
		first,
		{Name: "empty"},
		{Name: "_3", Fields: []api.Field{
			{Name: "f1", Number: 39, Kind: api.Sub, Of: 2, Repeated: true},
			{Name: "F1", Number: 1, Kind: api.Sub, Of: 1},
			{Name: "empty", Number: api.MaxNumber, Kind: api.Double, Repeated: true, Packed: true},
			{Name: "_", Number: 18999, Kind: api.String, Repeated: true},
			{Name: "_3", Number: 20000, Kind: api.Sub, Of: 3},
			{Name: "z", Number: 2, Kind: api.Bool, Repeated: true},
		}},
		{Name: "last", Fields: []api.Field{{Name: "up", Number: 7, Kind: api.Sub}}},
	}
}

// wide is a right schema of so many messages, each with so many fields.
func wide(messages, fields int) api.Schema {
	s := make(api.Schema, messages)
	for i := range s {
		s[i].Name = "m" + strconv.Itoa(i)
		for j := range fields {
			s[i].Fields = append(s[i].Fields, api.Field{Name: "f" + strconv.Itoa(j), Number: fields - j, Kind: 1 + j%17})
		}
	}
	return s
}

// one is a schema of one message with these fields.
func one(fields ...api.Field) api.Schema { return api.Schema{{Name: "m", Fields: fields}} }

// rights are right schemas.
func rights() []api.Schema {
	return []api.Schema{
		sample(), one(), {{Name: "m", Fields: []api.Field{}}}, one(api.Field{Name: "a", Number: 1, Kind: api.Sub}),
		wide(1, 200), wide(100, 0), wide(100, 3), wide(100, 200),
	}
}

// ends are numbers at the ends of what an int has, and near what the chapter names.
func ends() []int {
	l := []int{math.MinInt, math.MinInt + 1, math.MinInt32, math.MaxInt32, math.MaxInt - 1, math.MaxInt}
	for _, n := range []int{0, 17, 60, 100, 200, 18999, 19000, 19500, 19999, 20000, api.MaxNumber, 1 << 30} {
		for d := -2; d <= 2; d++ {
			l = append(l, n+d)
		}
	}
	return l
}

// fault is what Check tells of a schema that isn't right there.
func fault(t *testing.T, s api.Schema, message, field, what int) {
	t.Helper()
	want := schema.Place{Message: message, Field: field, What: what}
	if p, e := schema.Check(s); p != want || e != api.Ill {
		t.Errorf("Check: %v, %v, not %v", p, e, want)
	}
	if schema.Right(s) {
		t.Errorf("Right, in spite of %v", want)
	}
}

// fine tells that a schema is right.
func fine(t *testing.T, s api.Schema) {
	t.Helper()
	if p, e := schema.Check(s); p != (schema.Place{}) || e != api.Fine {
		t.Errorf("Check of a right one: %v, %v", p, e)
	}
	if !schema.Right(s) {
		t.Error("a right one isn't Right")
	}
}

// judge tells that a schema of one message is right, or that its field isn't.
func judge(t *testing.T, right bool, s api.Schema, message, field, what int) {
	t.Helper()
	if right {
		fine(t, s)
		return
	}
	fault(t, s, message, field, what)
}

// defined is the document's Check, without maps.
func defined(s api.Schema) (schema.Place, api.Code) {
	if len(s) == 0 || len(s) > 100 {
		return schema.Place{Message: -1, Field: -1, What: 1}, api.Ill
	}
	for i, m := range s {
		if what := definedMessage(s, i); what != 0 {
			return schema.Place{Message: i, Field: -1, What: what}, api.Ill
		}
		for j := range m.Fields {
			if what := definedField(s, i, j); what != 0 {
				return schema.Place{Message: i, Field: j, What: what}, api.Ill
			}
		}
	}
	return schema.Place{}, api.Fine
}

// definedName tells by the document whether a text is a name.
func definedName(n string) bool {
	const letters = "abcdefghijklmnopqrstuvwxyzABCDEFGHIJKLMNOPQRSTUVWXYZ_"
	return n != "" && len(n) < 61 && strings.IndexByte(letters, n[0]) >= 0 && strings.Trim(n, letters+"0123456789") == ""
}

// definedMessage is what isn't right of a message by the document.
func definedMessage(s api.Schema, i int) int {
	switch m := s[i]; {
	case !definedName(m.Name):
		return 2
	case slices.ContainsFunc(s[:i], func(o api.Message) bool { return o.Name == m.Name }):
		return 3
	case len(m.Fields) > 200:
		return 4
	}
	return 0
}

// definedField is what isn't right of a field by the document.
func definedField(s api.Schema, i, j int) int {
	f, ahead := s[i].Fields[j], s[i].Fields[:j]
	switch n := f.Number; {
	case !definedName(f.Name):
		return 5
	case slices.ContainsFunc(ahead, func(o api.Field) bool { return o.Name == f.Name }):
		return 6
	case n < 1 || n > 536870911 || n/1000 == 19:
		return 7
	case slices.ContainsFunc(ahead, func(o api.Field) bool { return o.Number == n }):
		return 8
	case f.Kind < 1 || f.Kind > 17:
		return 9
	case f.Packed && (!f.Repeated || f.Kind > 14):
		return 10
	case f.Kind == 17 && (f.Of < 0 || f.Of >= len(s)), f.Kind != 17 && f.Of != 0:
		return 11
	}
	return 0
}

// dice are numbers that look like chance, always the same.
type dice uint64

// below is one from 0 to less than n.
func (d *dice) below(n int) int {
	*d = *d*6364136223846793005 + 1442695040888963407
	return int(uint64(*d) >> 33 % uint64(n))
}

// pick is one of a list.
func pick[T any](d *dice, l ...T) T { return l[d.below(len(l))] }

// anyField is a field that is often right.
func anyField(d *dice) api.Field {
	f := api.Field{
		Name:   pick(d, "a", "b", "c", "d", "e", "f", "A", "_", "a1", "g_", "h", "i"),
		Number: 1 + d.below(30),
		Kind:   1 + d.below(17),
	}
	f.Repeated = d.below(2) == 0
	f.Packed = f.Repeated && f.Kind < 15 && d.below(2) == 0
	switch d.below(40) {
	case 0:
		f.Name = pick(d, "", "1", "a-", "a.", "\xff")
	case 1:
		f.Number = pick(d, 0, -1, 19000, 19999, api.MaxNumber+1, 18999, 20000, api.MaxNumber)
	case 2:
		f.Kind = pick(d, 0, 18, -1, 1+1<<16)
	case 3:
		f.Packed = true
	case 4:
		f.Repeated = false
	}
	if f.Kind == api.Sub || d.below(60) == 0 {
		f.Of = d.below(4) - d.below(40)/39
	}
	return f
}

// anySchema is a schema that is sometimes right.
func anySchema(d *dice) api.Schema {
	s := make(api.Schema, d.below(5))
	for i := range s {
		s[i].Name = pick(d, "a", "b", "c", "d", "e", "f", "g", "h", "i", "j", "k", "l", "m", "n", "o", "p", "q", "r", "", "0")
		for range d.below(5) {
			s[i].Fields = append(s[i].Fields, anyField(d))
		}
	}
	return s
}

// P7.1: right schemas are.
func TestRight(t *testing.T) {
	for _, s := range rights() {
		fine(t, s)
	}
}

// P7.1, R1: from 1 to 100 messages.
func TestCountOfMessages(t *testing.T) {
	fault(t, nil, -1, -1, 1)
	fault(t, api.Schema{}, -1, -1, 1)
	for _, n := range []int{1, 2, 99, 100, 101, 102, 200, 356, 70000} {
		judge(t, n <= 100, wide(n, 0), -1, -1, 1)
	}
	// Ahead of all else.
	fault(t, make(api.Schema, 101), -1, -1, 1)
	fault(t, make(api.Schema, 100), 0, -1, 2)
}

// P7.1: at most 200 fields, in each message.
func TestCountOfFields(t *testing.T) {
	for _, n := range []int{0, 1, 199, 200, 201, 202, 400, 456, 70000} {
		s := wide(3, 2)
		s[1].Fields = wide(1, n)[0].Fields
		for j := range s[1].Fields { // none of those that no field may have
			s[1].Fields[j].Number = 30000 + j
		}
		judge(t, n <= 200, s, 1, -1, 4)
	}
	// Ahead of the fields.
	s := wide(2, 0)
	s[1].Fields = make([]api.Field, 201)
	fault(t, s, 1, -1, 4)
	s[1].Fields = s[1].Fields[:200]
	fault(t, s, 1, 0, 5)
}

// names are texts that are names, or nearly so: all of one byte, all of two, some longer.
func names() []string {
	l := []string{
		"", strings.Repeat("a", 59), strings.Repeat("a", 60), strings.Repeat("a", 61), strings.Repeat("_", 60), strings.Repeat("_", 61),
		"a" + strings.Repeat("9", 59), "a" + strings.Repeat("9", 60), strings.Repeat("Z", 316), strings.Repeat("a", 1<<16+5),
		"a.b", "a b", " ab", "ab ", "ab\n", "a\x00b", "a-b", "aB_9", "__1", "1__", "\u00e9", "e\u0301", "a\u00e9", "\u212a", "\uff41", "a\u0661", "\u0430",
		"a\xffb", "message", "repeated", strings.Repeat("a", 59) + "-", strings.Repeat("a", 59) + "\xc3", strings.Repeat("\u00e9", 30),
	}
	for c := range 256 {
		l = append(l, string([]byte{byte(c)}), string([]byte{'x', 'y', byte(c)}), string([]byte{byte(c), 'x', 'y'}))
		for e := range 256 {
			l = append(l, string([]byte{byte(c), byte(e)}))
		}
	}
	return l
}

// P7.1: names of messages, and of fields.
func TestNames(t *testing.T) {
	for _, n := range names() {
		right := definedName(n)
		judge(t, right, api.Schema{{Name: "mes"}, {Name: n}}, 1, -1, 2)
		judge(t, right, one(api.Field{Name: "fie", Number: 1, Kind: 1}, api.Field{Name: n, Number: 2, Kind: 1}), 0, 1, 5)
	}
}

// P7.1: no two messages of one name; capitals are other letters.
func TestTwoMessages(t *testing.T) {
	for _, c := range []struct {
		names string
		at    int
	}{
		{"a a", 1}, {"a b a", 2}, {"a b b", 2}, {"a b c d e a", 5}, {"a b c c b a", 3}, {"a a a", 1}, {"a A aa _ _a a_ a1 A1", 0}, {"a b A a", 3},
	} {
		s := api.Schema{}
		for n := range strings.SplitSeq(c.names, " ") {
			s = append(s, api.Message{Name: n})
		}
		judge(t, c.at == 0, s, c.at, -1, 3)
	}
	s := wide(100, 1)
	for i := range 99 {
		s[99].Name = s[i].Name
		fault(t, s, 99, -1, 3)
	}
}

// P7.1: no two fields of one name, or number, in a message.
func TestTwoFields(t *testing.T) {
	for i := range 200 {
		for _, j := range []int{0, 1, 57, 198, 199} {
			if i == j {
				continue
			}
			s := wide(2, 200)
			s[1].Fields[i].Name = s[1].Fields[j].Name
			fault(t, s, 1, max(i, j), 6)
			s = wide(2, 200)
			s[1].Fields[i].Number = s[1].Fields[j].Number
			fault(t, s, 1, max(i, j), 8)
			s[1].Fields[i].Name = s[1].Fields[j].Name
			fault(t, s, 1, max(i, j), 6)
		}
	}
}

// P7.1: fields of other messages, and messages, may have a field's name; its number may stand in other messages.
func TestNamesAgain(t *testing.T) {
	f := api.Field{Name: "a", Number: 1, Kind: api.Int32}
	fine(t, api.Schema{{Name: "a", Fields: []api.Field{f}}, {Name: "b", Fields: []api.Field{f}}, {Name: "c", Fields: []api.Field{f}}})
	fine(t, api.Schema{{Name: "c", Fields: []api.Field{f}}, {Name: "b", Fields: []api.Field{f}}, {Name: "a", Fields: []api.Field{f}}})
	fine(t, one(api.Field{Name: "a", Number: 1, Kind: 1}, api.Field{Name: "A", Number: 2, Kind: 1}, api.Field{Name: "m", Number: 3, Kind: 1}))
	same := []api.Field{f, {Name: "b", Number: 2, Kind: api.Sub}}
	fine(t, api.Schema{{Name: "a", Fields: same}, {Name: "b", Fields: same}}) // one list, in two messages
}

// P7.1: numbers from 1 to 536870911, but not from 19000 to 19999.
func TestNumbers(t *testing.T) {
	for _, n := range ends() {
		right := n >= 1 && n <= 18999 || n >= 20000 && n <= 536870911
		judge(t, right, one(api.Field{Name: "a", Number: 5, Kind: 1}, api.Field{Name: "b", Number: n, Kind: 1}), 0, 1, 7)
	}
	for n := 18000; n < 21000; n++ {
		judge(t, n < 19000 || n > 19999, one(api.Field{Name: "b", Number: n, Kind: 1}), 0, 0, 7)
	}
}

// P7.1: the kinds are those from 1 to 17.
func TestKinds(t *testing.T) {
	for k := -300; k < 600; k++ {
		judge(t, k >= 1 && k <= 17, one(api.Field{Name: "a", Number: 1, Kind: k}), 0, 0, 9)
	}
	for _, k := range ends() {
		judge(t, k >= 1 && k <= 17, one(api.Field{Name: "a", Number: 1, Kind: k}), 0, 0, 9)
	}
}

// P7.1: Packed only of Repeated fields of a number's kind.
func TestPacked(t *testing.T) {
	for k := 1; k <= 17; k++ {
		f := api.Field{Name: "a", Number: 1, Kind: k}
		fine(t, one(f))
		f.Packed = true
		fault(t, one(f), 0, 0, 10)
		f.Repeated = true
		judge(t, k <= 14, one(f), 0, 0, 10)
		f.Packed = false
		fine(t, one(f))
	}
}

// P7.1: Of is a message's number, of the kind Sub, else 0.
func TestOf(t *testing.T) {
	for _, size := range []int{1, 2, 5, 99, 100} {
		for k := 1; k <= 17; k++ {
			for _, of := range append(ends(), size-1, size, size+1, 2*size) {
				s := wide(size, 1)
				at := size / 2
				s[at].Fields = append(s[at].Fields, api.Field{Name: "a", Number: 1000, Kind: k, Of: of, Repeated: size == 2})
				judge(t, of == 0 || k == api.Sub && of > 0 && of < size, s, at, 1, 11)
			}
		}
	}
}

// spoil makes a thing not right, in the field j of the message i (behind another field, and another message).
func spoil(s api.Schema, i, j, what int) {
	f := &s[i].Fields[min(j, len(s[i].Fields)-1)]
	switch what {
	case 2:
		s[i].Name = "a-b"
	case 3:
		s[i].Name = s[i-1].Name
	case 4:
		for n := len(s[i].Fields); n < 201; n++ {
			s[i].Fields = append(s[i].Fields, api.Field{Name: "g" + strconv.Itoa(n), Number: 1000 + n, Kind: 1})
		}
	case 5:
		f.Name = "9"
	case 6:
		f.Name = s[i].Fields[j-1].Name
	case 7:
		f.Number = 0
	case 8:
		f.Number = s[i].Fields[j-1].Number
	case 9:
		f.Kind = 18
	case 10:
		f.Repeated, f.Packed = false, true
	case 11:
		f.Kind, f.Of = api.Sub, len(s)
	}
}

// apart tells whether two things can be wrong of one field, or message, at once.
func apart(a, b int) bool {
	for _, c := range [][2]int{{2, 3}, {5, 6}, {7, 8}, {9, 11}} { // of one thing each
		if a == c[0] && b == c[1] || a == c[1] && b == c[0] {
			return false
		}
	}
	return a != b
}

// where is the place of what spoil did.
func where(i, j, what int) schema.Place {
	if what < 5 {
		return schema.Place{Message: i, Field: -1, What: what}
	}
	return schema.Place{Message: i, Field: j, What: what}
}

// P7.1: of two things that aren't right in one place the one that the chapter names first is told; of an earlier message all ahead of all of a later one.
func TestOrder(t *testing.T) {
	for a := 2; a <= 11; a++ {
		s := wide(4, 5)
		spoil(s, 1, 2, a)
		p := where(1, 2, a)
		fault(t, s, p.Message, p.Field, p.What)
		for b := 2; b <= 11; b++ {
			if s := wide(4, 5); apart(a, b) {
				spoil(s, 1, 2, a)
				spoil(s, 1, 2, b)
				p = where(1, 2, min(a, b))
				fault(t, s, p.Message, p.Field, p.What)
			}
			if s := wide(4, 5); b > 4 { // a later field of the message
				spoil(s, 1, 2, a)
				spoil(s, 1, 4, b)
				p = where(1, 2, a)
				fault(t, s, p.Message, p.Field, p.What)
			}
			s = wide(4, 5) // a later message
			spoil(s, 1, 2, a)
			spoil(s, 3, 2, b)
			p = where(1, 2, a)
			fault(t, s, p.Message, p.Field, p.What)
		}
	}
}

// P7.1: schemas of all sorts are as the document says.
func TestAnySchemas(t *testing.T) {
	d, met := dice(1), map[int]int{}
	for range 100000 {
		s := anySchema(&d)
		want, code := defined(s)
		met[want.What]++
		if p, e := schema.Check(s); p != want || e != code {
			t.Fatalf("Check of %v: %v, %v, not %v, %v", s, p, e, want, code)
		}
		if r := schema.Right(s); r != (code == api.Fine) {
			t.Fatalf("Right of %v: %v", s, r)
		}
	}
	for _, what := range []int{0, 1, 2, 3, 5, 6, 7, 8, 9, 10, 11} {
		if met[what] < 100 {
			t.Errorf("only %d schemas of %d", met[what], what)
		}
	}
}

// R6: what Check told once it tells again, whatever it told in between.
func TestAgain(t *testing.T) {
	s, ill := sample(), wide(2, 2)
	ill[1].Fields[1].Kind = 0
	for range 3 {
		fine(t, s)
		fault(t, ill, 1, 1, 9)
	}
}

// P7.2: Message tells the first one of a name, of any schema.
func TestMessage(t *testing.T) {
	s := api.Schema{{Name: "b"}, {Name: ""}, {Name: "a"}, {Name: "b"}, {Name: "\xff"}, {Name: "a"}}
	for _, c := range []struct {
		name string
		at   int
	}{{"b", 0}, {"", 1}, {"a", 2}, {"\xff", 4}} {
		if i, e := schema.Message(s, c.name); i != c.at || e != api.Fine {
			t.Errorf("Message(%q): %d, %v", c.name, i, e)
		}
	}
	big := wide(300, 0)
	for i, m := range big {
		if n, e := schema.Message(big, m.Name); n != i || e != api.Fine {
			t.Errorf("Message(%q): %d, %v", m.Name, n, e)
		}
	}
}

// P7.2, R2: of a name that no message has None, and 0.
func TestMessageNone(t *testing.T) {
	for _, s := range append(rights(), nil, api.Schema{}) {
		for _, n := range []string{"", "x", "f1", "F", "Firs", "first", "First ", "m00", "\xff", strings.Repeat("a", 100)} {
			if i, e := schema.Message(s, n); i != 0 || e != api.None {
				t.Errorf("Message(%q): %d, %v", n, i, e)
			}
		}
	}
}

// muddle is a message that isn't right: names and numbers stand twice, at the ends of all.
func muddle() api.Message {
	return api.Message{Fields: []api.Field{
		{Name: "b", Number: 7},
		{Name: "a", Number: math.MaxInt},
		{Name: "", Number: math.MinInt},
		{Name: "b", Number: 7, Kind: 3},
		{Name: "c", Number: 0},
		{Name: "a", Number: -1},
		{Name: "B", Number: math.MaxInt},
		{Name: "\xff", Number: math.MinInt},
		{Name: "", Number: 7},
		{Name: "d", Number: math.MinInt + 1},
	}}
}

// P7.2: ByNumber and ByName tell the first field, of any message.
func TestBy(t *testing.T) {
	m := muddle()
	for n, at := range map[int]int{7: 0, math.MaxInt: 1, math.MinInt: 2, 0: 4, -1: 5, math.MinInt + 1: 9} {
		if i, ok := schema.ByNumber(m, n); i != at || !ok {
			t.Errorf("ByNumber(%d): %d, %v, not %d", n, i, ok, at)
		}
	}
	for n, at := range map[string]int{"b": 0, "a": 1, "": 2, "c": 4, "B": 6, "\xff": 7, "d": 9} {
		if i, ok := schema.ByName(m, n); i != at || !ok {
			t.Errorf("ByName(%q): %d, %v, not %d", n, i, ok, at)
		}
	}
}

// P7.2, R2: of what no field has ByNumber and ByName tell 0 and false.
func TestByNone(t *testing.T) {
	for _, m := range []api.Message{{}, {Fields: []api.Field{}}, {Name: "x"}, muddle(), sample()[0]} {
		for _, n := range []int{1, 6, 8, 41, 1000, math.MaxInt - 1, math.MinInt + 2, 7 + 1<<16} {
			if i, ok := schema.ByNumber(m, n); i != 0 || ok {
				t.Errorf("ByNumber(%d): %d, %v", n, i, ok)
			}
		}
		for _, n := range []string{"x", "bb", "First", "f", "f18", "b ", "\xfe"} {
			if i, ok := schema.ByName(m, n); i != 0 || ok {
				t.Errorf("ByName(%q): %d, %v", n, i, ok)
			}
		}
	}
	if i, ok := schema.ByNumber(api.Message{}, 0); i != 0 || ok {
		t.Errorf("ByNumber of no fields: %d, %v", i, ok)
	}
	if i, ok := schema.ByName(api.Message{}, ""); i != 0 || ok {
		t.Errorf("ByName of no fields: %d, %v", i, ok)
	}
}

// definedSorted is the document's Sorted: again and again the least number that is left, the one ahead first.
func definedSorted(m api.Message) []int {
	l := []int{}
	for range m.Fields {
		best := -1
		for i, f := range m.Fields {
			if !slices.Contains(l, i) && (best < 0 || f.Number < m.Fields[best].Number) {
				best = i
			}
		}
		l = append(l, best)
	}
	return l
}

// P7.2: Sorted of any message.
func TestSorted(t *testing.T) {
	d := dice(2)
	l := []api.Message{{}, {Fields: []api.Field{}}, muddle(), sample()[0], sample()[2], wide(1, 200)[0]}
	for n := range 120 {
		m := api.Message{}
		for range n {
			m.Fields = append(m.Fields, api.Field{Number: pick(&d, 1, 2, 3, d.below(50), -d.below(9), math.MinInt, math.MaxInt, math.MinInt+1)})
		}
		l = append(l, m)
	}
	for _, m := range l {
		if got, want := schema.Sorted(m), definedSorted(m); !slices.Equal(got, want) {
			t.Errorf("Sorted: %v, not %v", got, want)
		}
	}
	if l := schema.Sorted(muddle()); !slices.Equal(l, []int{2, 7, 9, 5, 4, 0, 3, 8, 1, 6}) {
		t.Errorf("Sorted of the muddle: %v", l)
	}
}

// P7.2: many fields of one number stay in their order.
func TestSortedOfMany(t *testing.T) {
	m := api.Message{Fields: make([]api.Field, 20000)}
	for i := range m.Fields {
		m.Fields[i].Number = -(i % 3)
	}
	l := schema.Sorted(m)
	for i := 1; i < len(l); i++ {
		a, b := m.Fields[l[i-1]].Number, m.Fields[l[i]].Number
		if a > b || a == b && l[i-1] >= l[i] {
			t.Fatalf("Sorted: the field %d (%d) ahead of %d (%d)", l[i-1], a, l[i], b)
		}
	}
	if len(l) != 20000 {
		t.Errorf("Sorted: %d", len(l))
	}
}

// R4: what Sorted told is the caller's.
func TestSortedNew(t *testing.T) {
	m := sample()[0]
	clear(schema.Sorted(m))
	if l := schema.Sorted(m); l[0] != 16 || l[16] != 0 {
		t.Errorf("Sorted: %v", l)
	}
}

// others are schemas, each but a little other than the sample: a thing of one field, a field, a name, or a message.
func others() []api.Schema {
	l := []api.Schema{nil, {}, sample()[:3], sample()[1:], append(sample(), api.Message{}), append(sample(), api.Message{Name: "x"}), append(sample(), sample()...)}
	turns := []func(f *api.Field){
		func(f *api.Field) { f.Name += "x" },
		func(f *api.Field) { f.Name = "" },
		func(f *api.Field) { f.Number++ },
		func(f *api.Field) { f.Number = -f.Number },
		func(f *api.Field) { f.Kind++ },
		func(f *api.Field) { f.Repeated = !f.Repeated },
		func(f *api.Field) { f.Packed = !f.Packed },
		func(f *api.Field) { f.Of++ },
		func(f *api.Field) { *f = api.Field{} },
	}
	for i, m := range sample() {
		for j := range m.Fields {
			for _, turn := range turns {
				s := sample()
				turn(&s[i].Fields[j])
				l = append(l, s)
			}
			s := sample()
			s[i].Fields = slices.Delete(s[i].Fields, j, j+1)
			l = append(l, s)
			s = sample()
			s[i].Fields = slices.Insert(s[i].Fields, j, s[i].Fields[j])
			l = append(l, s)
			s = sample()
			if next := j + 1; next < len(m.Fields) {
				s[i].Fields[j], s[i].Fields[next] = s[i].Fields[next], s[i].Fields[j]
				l = append(l, s)
			}
		}
		s := sample()
		s[i].Name += "x"
		l = append(l, s)
		s = sample()
		s[i].Fields = append(s[i].Fields, api.Field{})
		l = append(l, s, slices.Delete(sample(), i, i+1), slices.Insert(sample(), i, sample()[i]))
		s = sample()
		s[i], s[(i+1)%4] = s[(i+1)%4], s[i]
		l = append(l, s)
	}
	return l
}

// P7.2: Same of the same, in other memory, and of all that are a little other.
func TestSame(t *testing.T) {
	l := append(rights(), nil, api.Schema{{}}, api.Schema{{}, {}}, api.Schema{muddle()})
	again := append(rights(), nil, api.Schema{{}}, api.Schema{{}, {}}, api.Schema{muddle()})
	for i := range l {
		if !schema.Same(l[i], again[i]) || !schema.Same(l[i], l[i]) {
			t.Errorf("the schema %d isn't the same as itself", i)
		}
	}
	for i, o := range others() {
		if schema.Same(sample(), o) || schema.Same(o, sample()) {
			t.Errorf("the schema %d is the same as the sample: %v", i, o)
		}
	}
}

// P7.2, R3: lists without things are the same, nil or empty.
func TestSameEmpty(t *testing.T) {
	a, b := api.Schema{{Name: "m"}}, api.Schema{{Name: "m", Fields: []api.Field{}}}
	if !schema.Same(nil, api.Schema{}) || !schema.Same(api.Schema{}, nil) || !schema.Same(a, b) || !schema.Same(b, a) {
		t.Error("nil and empty aren't the same")
	}
	if schema.Same(nil, api.Schema{{}}) || schema.Same(api.Schema{{}}, nil) {
		t.Error("no message and one are the same")
	}
}

// scribble changes all of a schema, and what room there is behind it.
func scribble(s api.Schema) {
	for i := range s {
		fields := s[i].Fields[:cap(s[i].Fields)]
		for j := range fields {
			fields[j] = api.Field{Name: "scribbled", Number: -1, Kind: -1, Repeated: true, Packed: true, Of: -1}
		}
		s[i] = api.Message{Name: "scribbled"}
	}
	s = s[:cap(s)]
	for i := range s {
		s[i] = api.Message{Name: "scribbled"}
	}
}

// P7.2: Copy is the same, and what is done to one of both the other doesn't tell.
func TestCopy(t *testing.T) {
	l, kept := append(rights(), api.Schema{muddle()}, api.Schema{{}, {}}), append(rights(), api.Schema{muddle()}, api.Schema{{}, {}})
	for i, s := range l {
		c := schema.Copy(s)
		if !schema.Same(c, kept[i]) || len(c) != len(s) {
			t.Errorf("the copy of %d is another one", i)
		}
		scribble(c)
		if !schema.Same(s, kept[i]) {
			t.Errorf("a change to the copy of %d changed it", i)
		}
		c = schema.Copy(s)
		scribble(s)
		if !schema.Same(c, kept[i]) {
			t.Errorf("a change to %d changed its copy", i)
		}
	}
	if c := schema.Copy(nil); len(c) != 0 {
		t.Errorf("Copy of nil: %v", c)
	}
	if c := schema.Copy(api.Schema{}); len(c) != 0 {
		t.Errorf("Copy of none: %v", c)
	}
}

// R4: no two lists of a copy share memory, though those of the schema do, and no room behind them is shared.
func TestCopyApart(t *testing.T) {
	room := make([]api.Field, 2, 9)
	s := api.Schema{{Name: "a", Fields: room}, {Name: "b", Fields: room}, {Name: "c", Fields: room[:1]}, {Name: "d", Fields: room[:0]}}
	c := schema.Copy(s)
	c[0].Fields[0].Name = "x"
	for i := range c {
		c[i].Fields = append(c[i].Fields, api.Field{Name: "behind", Number: i})
	}
	if c[1].Fields[0].Name != "" || c[2].Fields[0].Name != "" || room[0].Name != "" || room[:3][2].Name != "" || room[:2][1].Name != "" {
		t.Errorf("a change to one list changed another one: %v, %v", c, room)
	}
	for i := range c {
		if f := c[i].Fields[len(c[i].Fields)-1]; f.Name != "behind" || f.Number != i {
			t.Errorf("behind the fields of %d: %v", i, f)
		}
	}
}

// R4: no call changes what it is handed.
func TestNothingChanged(t *testing.T) {
	before := append(rights(), others()...)
	for i, s := range append(rights(), others()...) {
		schema.Check(s)
		schema.Right(s)
		schema.Message(s, "last")
		for _, m := range s {
			schema.ByNumber(m, 3)
			schema.ByName(m, "z")
			schema.Sorted(m)
		}
		schema.Same(s, sample())
		schema.Copy(s)
		if !schema.Same(s, before[i]) {
			t.Errorf("the schema %d was changed", i)
		}
	}
}

// P7.3: in a right schema each message is found by its name, each field by its number and its name; sorted, they rise.
func TestFound(t *testing.T) {
	for _, s := range rights() {
		for i, m := range s {
			if n, e := schema.Message(s, m.Name); n != i || e != api.Fine {
				t.Fatalf("Message(%q): %d, %v", m.Name, n, e)
			}
			for j, f := range m.Fields {
				if n, ok := schema.ByNumber(m, f.Number); n != j || !ok {
					t.Fatalf("ByNumber(%d): %d, %v, not %d", f.Number, n, ok, j)
				}
				if n, ok := schema.ByName(m, f.Name); n != j || !ok {
					t.Fatalf("ByName(%q): %d, %v, not %d", f.Name, n, ok, j)
				}
			}
			l := schema.Sorted(m)
			if len(l) != len(m.Fields) || !slices.IsSortedFunc(l, func(a, b int) int { return m.Fields[a].Number - m.Fields[b].Number }) {
				t.Fatalf("Sorted: %v", l)
			}
		}
	}
}

// The chapter's example: a message without fields is right.
func TestExample(t *testing.T) {
	fine(t, api.Schema{{Name: "m"}})
}
