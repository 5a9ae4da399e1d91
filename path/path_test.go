package path_test

import (
	"cmp"
	"slices"
	"strconv"
	"strings"
	"testing"

	"darning/api"
	"darning/path"
	"darning/schema"
)

// isName: is it a name? Told byte by byte, from the words of schema's chapter.
func isName(s string) bool {
	const first, later = "abcdefghijklmnopqrstuvwxyzABCDEFGHIJKLMNOPQRSTUVWXYZ_", "0123456789"
	for i := range len(s) {
		c := string([]byte{s[i]})
		if !strings.Contains(first, c) && (i == 0 || !strings.Contains(later, c)) {
			return false
		}
	}
	return len(s) >= 1 && len(s) <= 60
}

// namesOf are a path's names; none, if it is no path.
func namesOf(p string) []string {
	var l []string
	from := 0
	for i := 0; i <= len(p); i++ {
		if i < len(p) && p[i] != 46 {
			continue
		}
		if !isName(p[from:i]) {
			return nil
		}
		l = append(l, p[from:i])
		from = i + 1
	}
	if len(l) > 65 {
		return nil
	}
	return l
}

// pathOf is these names with a point between each two.
func pathOf(l []string) string {
	p := ""
	for i, name := range l {
		if i > 0 {
			p += "."
		}
		p += name
	}
	return p
}

// order of two rows of names: name by name, byte by byte.
func order(l, m []string) int {
	for i := range min(len(l), len(m)) {
		a, b := l[i], m[i]
		for j := range min(len(a), len(b)) {
			if a[j] != b[j] {
				return cmp.Compare(a[j], b[j])
			}
		}
		if len(a) != len(b) {
			return cmp.Compare(len(a), len(b))
		}
	}
	return cmp.Compare(len(l), len(m))
}

// together is how many of their first names are the same.
func together(l, m []string) int {
	n := 0
	for n < len(l) && n < len(m) && l[n] == m[n] {
		n++
	}
	return n
}

// alone holds what is told of one text against its names.
func alone(t *testing.T, p string) {
	t.Helper()
	want, why := namesOf(p), api.Fine
	if want == nil {
		why = api.Form
	}
	l, e := path.Split(p)
	if e != why || !slices.Equal(l, want) || e != api.Fine && len(l) > 0 {
		t.Errorf("P12.1: Split of %.99q: %.99q, %v, not %.99q, %v", p, l, e, want, why)
	}
	if path.Right(p) != (want != nil) {
		t.Errorf("P12.1: Right of %.99q: %v", p, path.Right(p))
	}
	parent := ""
	if len(want) > 1 {
		parent = pathOf(want[:len(want)-1])
	}
	q, ok := path.Parent(p)
	if q != parent || ok != (len(want) > 1) {
		t.Errorf("P12.1: Parent of %.99q: %.99q, %v", p, q, ok)
	}
	if ok && (!path.Right(q) || !path.Under(p, q) || path.Under(q, p) || path.Compare(q, p) != -1) {
		t.Errorf("P12.3: %.99q and its parent %.99q", p, q)
	}
	if why == api.Fine {
		if back, e := path.Join(l); back != p || e != api.Fine {
			t.Errorf("P12.3: Split of %.99q, joined: %.99q, %v", p, back, e)
		}
	}
}

// pair holds what is told of two texts against their names.
func pair(t *testing.T, p, q string) {
	t.Helper()
	l, m := namesOf(p), namesOf(q)
	both, n := l != nil && m != nil, together(l, m)
	if u := path.Under(p, q); u != (both && n == len(m)) {
		t.Errorf("P12.2: Under of %.99q, %.99q: %v", p, q, u)
	}
	want := 0
	switch {
	case both:
		want = order(l, m)
	case l != nil:
		want = 1
	case m != nil:
		want = -1
	default:
		want = order([]string{p}, []string{q})
	}
	if c := path.Compare(p, q); c != want {
		t.Errorf("P12.2: Compare of %.99q, %.99q: %d, not %d", p, q, c, want)
	}
	common := ""
	if both {
		common = pathOf(l[:n])
	}
	c := path.Common(p, q)
	if c != common {
		t.Errorf("P12.2: Common of %.99q, %.99q: %.99q, not %.99q", p, q, c, common)
	}
	if c != "" && (!path.Under(p, c) || !path.Under(q, c)) {
		t.Errorf("P12.2: %.99q and %.99q don't both lie under %.99q", p, q, c)
	}
}

// texts are all rows of up to so many of these bytes.
func texts(bytes string, most int) []string {
	all := []string{""}
	last := all
	for range most {
		var next []string
		for _, p := range last {
			for i := range len(bytes) {
				next = append(next, p+bytes[i:i+1])
			}
		}
		all = append(all, next...)
		last = next
	}
	return all
}

// many is a path of so many names, all of them the same.
func many(name string, n int) string {
	return strings.TrimSuffix(strings.Repeat(name+".", n), ".")
}

// edges are texts at the ends of what the chapter names, and beyond them.
func edges() []string {
	long := strings.Repeat("b", 59)
	var each, few []string
	for i := range 66 {
		each = append(each, (long + strconv.Itoa(i))[len(strconv.Itoa(i))-1:])
		few = append(few, "n"+strconv.Itoa(i%7))
	}
	l := []string{
		many("a", 1), many("a", 2), many("a", 63), many("a", 64), many("a", 65), many("a", 66), many("a", 67), many("a", 130), many("a", 500),
		many("a", 64) + ".", many("a", 65) + ".", "." + many("a", 64), "." + many("a", 65), many("a", 64) + ".9", many("a", 64) + ".b", many("a", 63) + "..a",
		many("", 64), many("", 65), many("", 66), strings.Repeat(".", 64), strings.Repeat(".", 65), strings.Repeat(".", 500),
		pathOf(each[:64]), pathOf(each[:65]), pathOf(each), pathOf(few[:64]), pathOf(few[:65]), pathOf(few),
		"a", "a.", ".a", "a..b", "a.b", "a.b.c", "a.bc", "ab", "a.B", "A.b", "_", "_._", "_1.a", "1", "1.a", "a.1", "a.1b", "a1.b2.c3",
		" a", "a ", "a .b", "a. b", "a\n", "a\x00", "\x00", "a.\x00", "a,b", "a/b", "a-b", "a.b-c", "*", "a.*", "a[0]", "a:b", "\xff", "a.\xff", "\xc3\xa9", "a.\xc3\xa9.b", "a\xe3\x80\x82b",
	}
	for _, n := range []int{58, 59, 60, 61, 62, 120, 255, 256, 257, 1000} {
		name := strings.Repeat("c", n)
		l = append(l, name, name+".a", "a."+name, "a."+name+".a", many(name, 65), name+"."+name+"d", many("a", 64)+"."+name)
	}
	return l
}

// P12.1, P12.3: all texts of a few bytes: names' beginnings and ends, points, and what is in no name.
func TestAllShortTexts(t *testing.T) {
	for _, p := range texts("aZ_0.-", 5) {
		alone(t, p)
	}
	for _, p := range texts("a.", 12) {
		alone(t, p)
	}
}

// P12.1: each byte, as a name's first one, a later one, and its last one, in each place of a path.
func TestAllBytes(t *testing.T) {
	for i := range 256 {
		c := string([]byte{byte(i)})
		for _, p := range []string{c, c + "a", "a" + c, "a" + c + "a", c + c, c + ".a", "a" + c + ".a", "a." + c, "a.a" + c, "a." + c + "a.a", "a.a" + c + ".a", c + "." + c, "a" + c + ".a" + c} {
			alone(t, p)
			for _, q := range []string{"a", "a.a", "aa", "-", c, c + ".a", "a" + c} {
				pair(t, p, q)
				pair(t, q, p)
			}
		}
	}
}

// P12.1, P12.3: how many names there may be, and how long each may be.
func TestEdges(t *testing.T) {
	for _, p := range edges() {
		alone(t, p)
	}
	if p := many(strings.Repeat("a", 60), 65); !path.Right(p) || len(p) != 65*60+64 {
		t.Error("the longest path isn't right")
	}
	for at := range 65 {
		for _, bad := range []string{"", "1", "a-", strings.Repeat("a", 61)} {
			l := strings.Split(many("a", 65), ".")
			l[at] = bad
			alone(t, pathOf(l))
			l[at] = strings.Repeat("a", 60)
			alone(t, pathOf(l))
		}
	}
}

// P12.1: a name of a path is a name as schema has it.
func TestNamesAreSchemas(t *testing.T) {
	for _, name := range append(texts("aZ_0.-\xff", 3), edges()...) {
		is := schema.Right(api.Schema{{Name: name}})
		p, e := path.Join([]string{name})
		if is != (e == api.Fine) || is != (p == name && name != "") {
			t.Errorf("Join of %.99q: %.99q, %v", name, p, e)
		}
		if !strings.Contains(name, ".") && path.Right(name) != is {
			t.Errorf("Right of %.99q: %v", name, !is)
		}
	}
}

// joins holds what Join tells against the names that it is told of.
func joins(t *testing.T, l []string) {
	t.Helper()
	before := slices.Clone(l)
	want, why := "", api.Form
	if len(l) >= 1 && len(l) <= 65 && !slices.ContainsFunc(l, func(s string) bool { return !isName(s) }) {
		want, why = pathOf(l), api.Fine
	}
	p, e := path.Join(l)
	if p != want || e != why {
		t.Errorf("P12.1: Join of %.99q: %.99q, %v, not %.99q, %v", l, p, e, want, why)
	}
	if !slices.Equal(l, before) {
		t.Errorf("R4: %.99q was changed to %.99q", before, l)
	}
	if e != api.Fine {
		return
	}
	if back, e := path.Split(p); !slices.Equal(back, l) || e != api.Fine {
		t.Errorf("P12.3: Join of %.99q, split: %.99q, %v", l, back, e)
	}
}

// P12.1, P12.3: all rows of up to four of some names, and of what is none.
func TestJoin(t *testing.T) {
	some := []string{"b", "a", "B1", "_", "", "1", "a.b", ".", "a.", "-", "\xc3\xa9", strings.Repeat("z", 60), strings.Repeat("z", 61)}
	rows := [][]string{nil}
	for n := 0; n < len(rows); n++ {
		joins(t, rows[n])
		if len(rows[n]) < 4 {
			for _, name := range some {
				rows = append(rows, append(slices.Clone(rows[n]), name))
			}
		}
	}
	joins(t, []string{})
	for _, n := range []int{63, 64, 65, 66, 67, 100, 101, 130} {
		same, each := make([]string, n), make([]string, n)
		for i := range n {
			same[i], each[i] = "a", "n"+strconv.Itoa(n-i)
		}
		joins(t, same)
		joins(t, each)
		for _, at := range []int{0, n / 2, 63, 64, n - 1} {
			if at < n {
				one := slices.Clone(each)
				one[at] = "a.b"
				joins(t, one)
				one[at] = strings.Repeat("a", 60)
				joins(t, one)
				one[at] += "a"
				joins(t, one)
			}
		}
	}
	if p, e := path.Join([]string{"a", "b"}); p != "a.b" || e != api.Fine {
		t.Errorf("Join: %q, %v", p, e)
	}
}

// P12.2: all pairs of texts of a few bytes, ones that are less than the point among them.
func TestAllPairs(t *testing.T) {
	for _, all := range [][]string{texts("a0_.-", 3), texts("ab.", 4), texts("Aa.", 4)} {
		for _, p := range all {
			for _, q := range all {
				pair(t, p, q)
			}
		}
	}
}

// P12.2: pairs at the edges.
func TestEdgePairs(t *testing.T) {
	all := edges()
	for _, p := range all {
		for _, q := range all {
			pair(t, p, q)
		}
	}
	for n := 1; n <= 66; n++ {
		p := many("a", 65)
		pair(t, p, many("a", n))
		pair(t, many("a", n), p)
		pair(t, p, many("a", n)+".b")
		pair(t, p, many("a", n)+"a")
		pair(t, p[:len(p)-1]+"b", many("a", n))
	}
}

// P12.2: paths in their order, and what is no path ahead of them, as each two of them say.
func TestOrder(t *testing.T) {
	rows := []string{
		"", "\x00", ".", "1", "9.a", "A..", "a.", "a..b", "a.b-", "b!", "z z", "\xff",
		"A", "A.a", "A.z.z", "A0", "A0.a", "AA", "A_", "Aa", "B", "_", "_.a", "_0", "a", "a.A", "a.A.a", "a.A0", "a.Z", "a._", "a.a", "a.b", "a.b.c", "a.b.d", "a.bc", "a.c", "a0", "aB", "a_", "a_.b", "ab", "ab.a", "b", "b.a.a",
	}
	for i, p := range rows {
		for j, q := range rows {
			if c := path.Compare(p, q); c != cmp.Compare(i, j) {
				t.Errorf("Compare of %q, %q: %d", p, q, c)
			}
			pair(t, p, q)
		}
	}
	l := slices.Clone(rows)
	slices.Reverse(l)
	slices.SortFunc(l, path.Compare)
	if !slices.Equal(l, rows) {
		t.Errorf("sorted: %q", l)
	}
}

// The chapter's examples, and others written out.
func TestExamples(t *testing.T) {
	if !path.Under("a.b.c", "a.b") || path.Under("a.bc", "a.b") || path.Under("a.bc", "a.b.c") {
		t.Error("a.b.c lies under a.b; a.bc doesn't")
	}
	if l, e := path.Split("a.b_1.C"); len(l) != 3 || l[0] != "a" || l[1] != "b_1" || l[2] != "C" || e != api.Fine {
		t.Errorf("Split: %q, %v", l, e)
	}
	if p, ok := path.Parent("a.b.c"); p != "a.b" || !ok {
		t.Errorf("Parent: %q, %v", p, ok)
	}
	for _, p := range []string{"a", "", ".", "a.", ".a", "a..b", "a.1", "1.a"} {
		if q, ok := path.Parent(p); q != "" || ok {
			t.Errorf("Parent of %q: %q, %v", p, q, ok)
		}
	}
	for _, c := range []struct {
		p, q, common  string
		under, behind bool
		compared      int
	}{
		{"a", "a", "a", true, true, 0},
		{"a.b", "a", "a", true, false, 1},
		{"a.b.c", "a.b.d", "a.b", false, false, -1},
		{"a.b", "a.bc", "a", false, false, -1},
		{"a.b", "ab", "", false, false, -1},
		{"b.a", "a.a", "", false, false, 1},
		{"a.", "a", "", false, false, -1},
		{"a", "a-", "", false, false, 1},
		{"-", "-", "", false, false, 0},
		{"", "", "", false, false, 0},
		{"a.b", "", "", false, false, 1},
		{"a.b", "a..", "", false, false, 1},
		{"a..b", "a", "", false, false, -1},
		{"a..b", "a..", "", false, false, 1},
	} {
		if u, b, n, common := path.Under(c.p, c.q), path.Under(c.q, c.p), path.Compare(c.p, c.q), path.Common(c.p, c.q); u != c.under || b != c.behind || n != c.compared || common != c.common {
			t.Errorf("%q, %q: %v, %v, %d, %q", c.p, c.q, u, b, n, common)
		}
		if n, common := path.Compare(c.q, c.p), path.Common(c.q, c.p); n != -c.compared || common != c.common {
			t.Errorf("%q, %q: %d, %q", c.q, c.p, n, common)
		}
	}
}

// R1, R5: texts and rows far too long, and names that can't be.
func TestVeryLong(t *testing.T) {
	const long = 1 << 22
	for _, p := range []string{strings.Repeat("a", long), strings.Repeat(".", long), strings.Repeat("a.", long), many("a", long), "a." + strings.Repeat("a", long), strings.Repeat("a", long) + ".a", strings.Repeat("\x00", long), many("a", 64) + "." + strings.Repeat("a", long)} {
		if l, e := path.Split(p); len(l) != 0 || e != api.Form || path.Right(p) {
			t.Errorf("Split of a very long text: %.99q, %v", l, e)
		}
		if q, ok := path.Parent(p); q != "" || ok {
			t.Errorf("Parent of a very long text: %.99q, %v", q, ok)
		}
		if path.Under(p, "a") || path.Under("a", p) || path.Under(p, p) || path.Common(p, "a") != "" || path.Common("a", p) != "" {
			t.Error("a very long text lies under a path")
		}
		if path.Compare(p, "a") != -1 || path.Compare("a", p) != 1 || path.Compare(p, p) != 0 || path.Compare(p, p+".") != -1 {
			t.Error("a very long text isn't ahead of a path")
		}
		if q, e := path.Join([]string{"a", p}); q != "" || e != api.Form {
			t.Errorf("Join of a very long text: %.99q, %v", q, e)
		}
	}
	if p, e := path.Join(slices.Repeat([]string{"a"}, long)); p != "" || e != api.Form {
		t.Errorf("Join of very many names: %.99q, %v", p, e)
	}
}

// R4, R6: what is told is the caller's, and what was told before plays no part.
func TestNewMemory(t *testing.T) {
	l, e := path.Split("a.b.c")
	for i := range l {
		l[i] = "-"
	}
	_ = append(l[:1], "+")
	if m, f := path.Split("a.b.c"); !slices.Equal(m, []string{"a", "b", "c"}) || e != api.Fine || f != api.Fine {
		t.Errorf("Split, once more: %q, %v", m, f)
	}
	names := []string{"c", "b", "a", "b"}
	p, _ := path.Join(names)
	names[0] = "x"
	if q, e := path.Join(names); p != "c.b.a.b" || q != "x.b.a.b" || e != api.Fine {
		t.Errorf("Join, once more: %q, %q, %v", p, q, e)
	}
	for range 2 {
		alone(t, "a.b")
		alone(t, "a..b")
		pair(t, "a.b", "a.c")
		pair(t, "a.b", "a")
	}
}
