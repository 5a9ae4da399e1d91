package mask_test

import (
	"math"
	"slices"
	"strconv"
	"strings"
	"testing"

	"darning/api"
	"darning/mask"
	"darning/schema"
)

// before: does a way come ahead of another one, number by number?
func before(w, v []int) bool {
	for i := range w {
		if i == len(v) {
			return false
		}
		if w[i] != v[i] {
			return w[i] < v[i]
		}
	}
	return len(w) < len(v)
}

// begins: are a way's numbers the first ones of another's?
func begins(w, v []int) bool {
	if len(w) > len(v) {
		return false
	}
	for i := range w {
		if w[i] != v[i] {
			return false
		}
	}
	return true
}

// sameWay: have both the same numbers?
func sameWay(w, v []int) bool { return len(w) == len(v) && begins(w, v) }

// covers: is a way one of these that have numbers, or does it lie under one?
func covers(ways [][]int, way []int) bool {
	for _, w := range ways {
		if len(w) > 0 && begins(w, way) {
			return true
		}
	}
	return false
}

// maskOf ways: each that has numbers, once, and under none of the others, put into its place.
func maskOf(ways [][]int) [][]int {
	var l [][]int
	for i, w := range ways {
		out := len(w) == 0
		for j, v := range ways {
			out = out || len(v) > 0 && begins(v, w) && (len(v) < len(w) || j < i)
		}
		if out {
			continue
		}
		at := 0
		for at < len(l) && before(l[at], w) {
			at++
		}
		l = slices.Insert(l, at, w)
	}
	return l
}

// same ways, in the same order?
func same(a, b [][]int) bool { return slices.EqualFunc(a, b, sameWay) }

// show ways.
func show(ways [][]int) string {
	var b strings.Builder
	for _, w := range ways[:min(len(ways), 9)] {
		b.WriteByte('[')
		for i, n := range w[:min(len(w), 9)] {
			if i > 0 {
				b.WriteByte(' ')
			}
			b.WriteString(strconv.Itoa(n))
		}
		b.WriteByte(']')
	}
	return b.String()
}

// deep copy of ways.
func deep(ways [][]int) [][]int {
	var l [][]int
	for _, w := range ways {
		l = append(l, slices.Clone(w))
	}
	return l
}

// kept holds ways that were handed in against what they were.
func kept(t *testing.T, now, then [][]int) {
	t.Helper()
	if !same(now, then) {
		t.Errorf("R4: %s was changed to %s", show(then), show(now))
	}
}

// allWays are all ways of up to so many of these numbers.
func allWays(numbers []int, most int) [][]int {
	all := [][]int{{}}
	for i := 0; i < len(all); i++ {
		if len(all[i]) < most {
			for _, n := range numbers {
				all = append(all, append(slices.Clone(all[i]), n))
			}
		}
	}
	return all
}

// rows are all rows of up to so many of these ways.
func rows(ways [][]int, most int) [][][]int {
	all := [][][]int{nil}
	for i := 0; i < len(all); i++ {
		if len(all[i]) < most {
			for _, w := range ways {
				all = append(all, append(slices.Clone(all[i]), w))
			}
		}
	}
	return all
}

// alone holds what is told of ways by themselves against the oracle's mask, asked with these ways and their numbers.
func alone(t *testing.T, ways, asked [][]int) {
	t.Helper()
	then, want := deep(ways), maskOf(ways)
	got := mask.Of(ways)
	if !same(got.Ways, want) {
		t.Errorf("P13.2: Of %s: %s, not %s", show(ways), show(got.Ways), show(want))
	}
	if again := mask.Of(got.Ways); !same(again.Ways, want) {
		t.Errorf("P13.2: Of the mask %s: %s", show(want), show(again.Ways))
	}
	m := mask.Mask{Ways: ways}
	for _, way := range asked {
		if has := mask.Has(m, way); has != covers(want, way) {
			t.Errorf("P13.2: Has of %s, %s: %v", show(ways), show([][]int{way}), has)
		}
		if len(way) == 1 {
			number(t, m, want, way[0])
		}
	}
	kept(t, ways, then)
}

// number holds what a mask tells of a number against the oracle's mask.
func number(t *testing.T, m mask.Mask, want [][]int, n int) {
	t.Helper()
	whole := false
	var rests [][]int
	for _, w := range want {
		switch {
		case w[0] != n:
		case len(w) == 1:
			whole = true
		default:
			rests = append(rests, w[1:])
		}
	}
	if m.Whole(n) != whole {
		t.Errorf("P13.2: Whole of %s, %d: %v", show(m.Ways), n, !whole)
	}
	u, ok := m.Under(n)
	if !same(u.Ways, rests) || ok != (len(rests) > 0) {
		t.Errorf("P13.2: Under of %s, %d: %s, %v, not %s", show(m.Ways), n, show(u.Ways), ok, show(rests))
	}
}

// pair holds what is told of two masks' ways against the oracle, asked with these ways.
func pair(t *testing.T, a, b, asked [][]int) {
	t.Helper()
	thenA, thenB := deep(a), deep(b)
	x, y := maskOf(a), maskOf(b)
	var meet [][]int
	for _, w := range x {
		if covers(y, w) {
			meet = append(meet, w)
		}
	}
	for _, w := range y {
		if covers(x, w) {
			meet = append(meet, w)
		}
	}
	m, n := mask.Mask{Ways: a}, mask.Mask{Ways: b}
	u, v := mask.Union(m, n), mask.Meet(m, n)
	if want := maskOf(append(slices.Clone(a), b...)); !same(u.Ways, want) {
		t.Errorf("P13.2: Union of %s, %s: %s, not %s", show(a), show(b), show(u.Ways), show(want))
	}
	if want := maskOf(meet); !same(v.Ways, want) {
		t.Errorf("P13.2: Meet of %s, %s: %s, not %s", show(a), show(b), show(v.Ways), show(want))
	}
	for _, way := range asked {
		inA, inB := mask.Has(m, way), mask.Has(n, way)
		if mask.Has(u, way) != (inA || inB) || mask.Has(v, way) != (inA && inB) {
			t.Errorf("P13.3: %s, %s: is %s in the Union, in the Meet?", show(a), show(b), show([][]int{way}))
		}
	}
	kept(t, a, thenA)
	kept(t, b, thenB)
}

// P13.2: all rows of some ways, those without numbers and those that are there twice among them.
func TestAllRows(t *testing.T) {
	two := allWays([]int{1, 2}, 2)
	for _, ways := range rows(two, 5) {
		alone(t, ways, two)
	}
	three := allWays([]int{2, 1}, 3)
	for _, ways := range rows(three, 3) {
		alone(t, ways, three)
	}
	odd := allWays([]int{0, -1, 10}, 2)
	for _, ways := range rows(odd, 3) {
		alone(t, ways, odd)
	}
}

// P13.2, P13.3: all pairs of rows of some ways.
func TestAllPairs(t *testing.T) {
	two, three := allWays([]int{1, 2}, 2), allWays([]int{2, 1}, 3)
	few := rows(two, 3)
	for _, a := range few {
		for _, b := range few {
			if len(a)+len(b) < 6 {
				pair(t, a, b, two)
			}
		}
	}
	few = rows(three, 2)
	for _, a := range few {
		for _, b := range few {
			pair(t, a, b, three)
		}
	}
}

// P13.2: numbers at their ends, in order as numbers, not as texts.
func TestNumbers(t *testing.T) {
	ends := []int{math.MinInt, -3, -2, -1, 0, 1, 2, 9, 10, 100, 536870911, math.MaxInt}
	var one, two [][]int
	for _, n := range ends {
		one = append(one, []int{n})
		for _, k := range ends {
			two = append(two, []int{n, k})
		}
	}
	both := append(slices.Clone(two), one...)
	for _, ways := range [][][]int{one, two, both} {
		back := slices.Clone(ways)
		slices.Reverse(back)
		alone(t, ways, both)
		alone(t, back, both)
		pair(t, back, ways, both)
	}
	for i := range two {
		alone(t, append(slices.Clone(two[i:]), two[:i]...), both)
		alone(t, append(slices.Clone(two[i:]), one[i%len(one)]), both)
		pair(t, two[:i], two[i/2:], both)
		pair(t, two[i:], one[:i%len(one)], both)
	}
}

// P13.2: ways of which each begins with all of the ones ahead, and those that part late.
func TestLongWays(t *testing.T) {
	var stairs, combs, asked [][]int
	for n := range 130 {
		stairs = append(stairs, slices.Repeat([]int{3}, n))
		combs = append(combs, append(slices.Repeat([]int{3}, n), 4))
		asked = append(asked, slices.Repeat([]int{3}, n), append(slices.Repeat([]int{3}, n), 2))
	}
	back := slices.Clone(stairs)
	slices.Reverse(back)
	for _, ways := range [][][]int{stairs, back, combs, stairs[64:], back[:66], back[:1], append(slices.Clone(combs), stairs[70]), append(slices.Clone(combs), back[:60]...)} {
		alone(t, ways, asked)
		pair(t, ways, combs, asked)
		pair(t, combs[40:], ways, asked)
	}
}

// growing is a schema in which messages lie in messages, named and numbered so that neither is in order.
func growing() api.Schema {
	return api.Schema{
		{Name: "other", Fields: []api.Field{{Name: "z", Number: 1, Kind: api.Int32}}},
		{Name: "m", Fields: []api.Field{
			{Name: "b", Number: 7, Kind: api.Sub, Of: 1},
			{Name: "a", Number: 9, Kind: api.Sub, Of: 2},
			{Name: "r", Number: 3, Kind: api.Sub, Of: 2, Repeated: true},
			{Name: "i", Number: 536870911, Kind: api.Int32},
			{Name: "p", Number: 2, Kind: api.Fixed32, Repeated: true, Packed: true},
		}},
		{Name: "n", Fields: []api.Field{
			{Name: "b", Number: 1, Kind: api.String},
			{Name: "m", Number: 10, Kind: api.Sub, Of: 1},
			{Name: "a", Number: 2, Kind: api.Bytes},
			{Name: "none", Number: 4, Kind: api.Sub, Of: 3},
		}},
		{Name: "none"},
	}
}

// wayOf is what a path leads along, told from the words of the chapter; none, if it leads to no field.
func wayOf(s api.Schema, message int, p string) []int {
	if strings.Count(p, ".") > 64 {
		return nil
	}
	name, rest, more := strings.Cut(p, ".")
	for _, f := range s[message].Fields {
		if f.Name != name {
			continue
		}
		if !more {
			return []int{f.Number}
		}
		if f.Repeated || f.Kind != api.Sub {
			return nil
		}
		if behind := wayOf(s, f.Of, rest); behind != nil {
			return append([]int{f.Number}, behind...)
		}
	}
	return nil
}

// resolves holds what Resolve tells of a path against the oracle, and, where there is a way, Paths of it.
func resolves(t *testing.T, s api.Schema, root int, p string) {
	t.Helper()
	want, why := wayOf(s, root, p), api.Fine
	if want == nil {
		why = api.Mask
	}
	way, e := mask.Resolve(s, root, p)
	if !sameWay(way, want) || e != why {
		t.Errorf("P13.1: Resolve of %d, %.99q: %s, %v, not %s, %v", root, p, show([][]int{way}), e, show([][]int{want}), why)
	}
	m, e := mask.Make(s, root, []string{p})
	if e != why || len(m.Ways) != min(len(want), 1) || why == api.Fine && !sameWay(m.Ways[0], want) {
		t.Errorf("P13.1: Make of %d, %.99q: %s, %v", root, p, show(m.Ways), e)
	}
	if why == api.Fine {
		if l, e := mask.Paths(s, root, mask.Mask{Ways: [][]int{want}}); !slices.Equal(l, []string{p}) || e != api.Fine {
			t.Errorf("P13.1: Paths of %d, %s: %.99q, %v", root, show([][]int{want}), l, e)
		}
	}
}

// dotted are all rows of up to so many of these names, with points between.
func dotted(names []string, most int) []string {
	all := slices.Clone(names)
	last := all
	for range most - 1 {
		var next []string
		for _, p := range last {
			for _, name := range names {
				next = append(next, p+"."+name)
			}
		}
		all = append(all, next...)
		last = next
	}
	return all
}

// P13.1: all paths of a few names, and texts that are none.
func TestResolve(t *testing.T) {
	s := growing()
	names := []string{"a", "b", "m", "r", "i", "p", "none", "z", "", "A"}
	for root := range s {
		for _, p := range dotted(names, 4) {
			resolves(t, s, root, p)
		}
		for _, p := range []string{"a ", " a", "a.b ", "a/b", "a,b", "a..b", "9", "536870911", "a\x00", "\xff", "other", "m.other", "n.b", "*", "a.*"} {
			resolves(t, s, root, p)
		}
	}
}

// P13.1: a path has 65 names at the most, however deep the schema goes.
func TestLongPaths(t *testing.T) {
	s := growing()
	for n := range 70 {
		for _, last := range []string{"b", "a", "a.m", "a.a", "i", "r", "p", "r.b", "z"} {
			p := strings.Repeat("b.", n) + last
			resolves(t, s, 1, p)
			resolves(t, s, 2, "m."+p)
			want := wayOf(s, 1, p)
			if want == nil {
				continue
			}
			for _, more := range []int{0, 1, 2, 66} {
				way := append(slices.Repeat([]int{7}, more), want...)
				paths, why := []string{strings.Repeat("b.", more) + p}, api.Fine
				if len(way) > 65 {
					paths, why = nil, api.Mask
				}
				if l, e := mask.Paths(s, 1, mask.Mask{Ways: [][]int{way}}); !slices.Equal(l, paths) || e != why {
					t.Errorf("P13.1: Paths of a way of %d numbers: %.99q, %v", len(way), l, e)
				}
			}
		}
	}
	if w, e := mask.Resolve(s, 1, strings.Repeat("b.", 64)+"i"); len(w) != 65 || w[64] != 536870911 || e != api.Fine {
		t.Errorf("Resolve of 65 names: %s, %v", show([][]int{w}), e)
	}
}

// P13.1: the mask of all rows of a few paths is that of their ways, and its paths are theirs.
func TestMake(t *testing.T) {
	s := growing()
	some := []string{"a", "b", "a.b", "a.m", "a.m.a", "b.b.p", "i", "r", "a.none", "a.z", "r.b"}
	all := [][]string{nil}
	for i := 0; i < len(all); i++ {
		if len(all[i]) < 4 {
			for _, p := range some {
				all = append(all, append(slices.Clone(all[i]), p))
			}
		}
	}
	for _, paths := range all {
		var ways [][]int
		why, then := api.Fine, slices.Clone(paths)
		for _, p := range paths {
			way := wayOf(s, 1, p)
			if way == nil {
				why = api.Mask
			}
			ways = append(ways, way)
		}
		if why != api.Fine {
			ways = nil
		}
		m, e := mask.Make(s, 1, paths)
		if !same(m.Ways, maskOf(ways)) || e != why {
			t.Errorf("P13.1: Make of %q: %s, %v", paths, show(m.Ways), e)
		}
		l, e := mask.Paths(s, 1, m)
		if e != api.Fine || len(l) != len(m.Ways) {
			t.Errorf("P13.1: Paths of Make of %q: %q, %v", paths, l, e)
		}
		for i, p := range l {
			if !sameWay(wayOf(s, 1, p), m.Ways[i]) {
				t.Errorf("P13.1: Paths of %s: %q", show(m.Ways), l)
			}
		}
		if !slices.Equal(paths, then) {
			t.Errorf("R4: %q was changed to %q", then, paths)
		}
	}
	if !schema.Same(s, growing()) {
		t.Error("R4: the schema was changed")
	}
}

// P13.1: a mask's paths; and what is no mask, and ways that are no path's, have none.
func TestPaths(t *testing.T) {
	s := growing()
	for root := range s {
		numbers := []int{1, 2, 3, 4, 7, 9, 10, 536870911, 5, 0, -1}
		var l []string
		for _, p := range dotted([]string{"a", "b", "m", "r", "i", "p", "none", "z"}, 3) {
			if wayOf(s, root, p) != nil {
				l = append(l, p)
			}
		}
		for _, way := range allWays(numbers, 3) {
			at := slices.IndexFunc(l, func(p string) bool { return sameWay(wayOf(s, root, p), way) })
			paths, e := mask.Paths(s, root, mask.Mask{Ways: [][]int{way}})
			if at < 0 && (len(paths) > 0 || e != api.Mask) || at >= 0 && (e != api.Fine || !slices.Equal(paths, l[at:at+1])) {
				t.Errorf("P13.1: Paths of %d, %s: %q, %v", root, show([][]int{way}), paths, e)
			}
		}
	}
	ways := [][]int{{2}, {3}, {7}, {7, 2}, {7, 7}, {9, 1}, {9, 10}, {9, 10, 2}, {536870911}, {}, {9, 9}, {4}}
	for _, row := range rows(ways, 3) {
		right := same(row, maskOf(row))
		for _, way := range row {
			right = right && !slices.Contains([]int{0, 4}, slices.Max(append([]int{0}, way...))) && !sameWay(way, []int{9, 9})
		}
		then := deep(row)
		l, e := mask.Paths(s, 1, mask.Mask{Ways: row})
		if right != (e == api.Fine) || !right && (e != api.Mask || len(l) > 0) || right && len(l) != len(row) {
			t.Errorf("P13.1: Paths of %s: %q, %v", show(row), l, e)
		}
		for i, p := range l {
			if !sameWay(wayOf(s, 1, p), row[i]) {
				t.Errorf("P13.1: Paths of %s: %q", show(row), l)
			}
		}
		kept(t, row, then)
	}
}

// P13.1: errors in their order: Ill, Arg, Large, Mask.
func TestErrors(t *testing.T) {
	s, ill := growing(), growing()
	ill[3].Name = ""
	good, bad := []string{"b"}, []string{"q"}
	many := slices.Repeat([]string{"q"}, 201)
	for _, c := range []struct {
		s     api.Schema
		root  int
		paths []string
		want  api.Code
	}{
		{nil, 0, good, api.Ill}, {api.Schema{}, 0, good, api.Ill}, {ill, 1, good, api.Ill}, {ill, 9, many, api.Ill}, {nil, -1, bad, api.Ill}, {make(api.Schema, 101), 0, good, api.Ill},
		{s, 4, good, api.Arg}, {s, -1, good, api.Arg}, {s, math.MaxInt, good, api.Arg}, {s, math.MinInt, bad, api.Arg}, {s, 4, many, api.Arg}, {s, 5, nil, api.Arg},
		{s, 1, many, api.Large}, {s, 1, slices.Repeat(good, 201), api.Large}, {s, 1, slices.Repeat(good, 1<<16), api.Large},
		{s, 1, bad, api.Mask}, {s, 1, many[:200], api.Mask}, {s, 1, []string{"b", "a", "q"}, api.Mask}, {s, 1, []string{"q", "b"}, api.Mask}, {s, 3, good, api.Mask}, {s, 1, []string{"b", "b.q"}, api.Mask},
		{s, 1, good, api.Fine}, {s, 2, good, api.Fine}, {s, 1, nil, api.Fine}, {s, 3, nil, api.Fine}, {s, 1, slices.Repeat(good, 200), api.Fine},
	} {
		m, e := mask.Make(c.s, c.root, c.paths)
		if e != c.want || (len(m.Ways) > 0) != (e == api.Fine && len(c.paths) > 0) {
			t.Errorf("P13.1: Make of %d, %.50q: %s, %v, not %v", c.root, c.paths, show(m.Ways), e, c.want)
		}
		if c.want == api.Large {
			continue
		}
		for _, p := range c.paths {
			w, e := mask.Resolve(c.s, c.root, p)
			if c.want != api.Mask && e != c.want || e != api.Fine && len(w) > 0 {
				t.Errorf("P13.1: Resolve of %d, %q: %s, %v, not %v", c.root, p, show([][]int{w}), e, c.want)
			}
		}
		if c.want == api.Mask {
			continue
		}
		for _, ways := range [][][]int{nil, {}, {{0}}, {{}}, {{2}, {1}}} {
			want := c.want
			if want == api.Fine && len(ways) > 0 {
				want = api.Mask
			}
			if l, e := mask.Paths(c.s, c.root, mask.Mask{Ways: ways}); e != want || len(l) > 0 {
				t.Errorf("P13.1: Paths of %d, %s: %q, %v, not %v", c.root, show(ways), l, e, want)
			}
		}
	}
}

// P13.1: 200 paths may be in one mask; Paths asks for no such limit.
func TestMany(t *testing.T) {
	s := api.Schema{{Name: "m"}, {Name: "n"}}
	for i := range 200 {
		name := "f" + strconv.Itoa(i)
		s[0].Fields = append(s[0].Fields, api.Field{Name: name, Number: 200 - i, Kind: api.Sub, Of: 1})
		s[1].Fields = append(s[1].Fields, api.Field{Name: name, Number: 1 + i, Kind: api.Bool})
	}
	var paths, more []string
	var ways [][]int
	for i := range 200 {
		paths = append(paths, "f"+strconv.Itoa(i)+".f"+strconv.Itoa(199-i))
		for j := range 200 {
			ways = append(ways, []int{i + 1, j + 1})
			more = append(more, "f"+strconv.Itoa(199-i)+".f"+strconv.Itoa(j))
		}
	}
	m, e := mask.Make(s, 0, paths)
	if e != api.Fine || len(m.Ways) != 200 {
		t.Fatalf("Make: %s, %v", show(m.Ways), e)
	}
	for i, w := range m.Ways {
		if !sameWay(w, []int{i + 1, i + 1}) {
			t.Errorf("Make: %d: %s", i, show([][]int{w}))
		}
	}
	if l, e := mask.Paths(s, 0, mask.Mask{Ways: ways}); e != api.Fine || !slices.Equal(l, more) {
		t.Errorf("Paths of 40000 ways: %.99q, %v", l, e)
	}
	if m, e := mask.Make(s, 0, append(paths, paths[0])); e != api.Large || len(m.Ways) > 0 {
		t.Errorf("Make of 201 paths: %s, %v", show(m.Ways), e)
	}
}

// The chapter's example, and others written out.
func TestExamples(t *testing.T) {
	s := growing()
	for _, c := range []struct {
		paths, want []string
		ways        [][]int
	}{
		{[]string{"a.b", "a", "a.m"}, []string{"a"}, [][]int{{9}}},
		{[]string{"i", "a.m.i", "a.b", "a.m", "p"}, []string{"p", "a.b", "a.m", "i"}, [][]int{{2}, {9, 1}, {9, 10}, {536870911}}},
		{[]string{"a.m", "r", "a.b"}, []string{"r", "a.b", "a.m"}, [][]int{{3}, {9, 1}, {9, 10}}},
		{[]string{"b.b.b", "b.b", "b.b.a"}, []string{"b.b"}, [][]int{{7, 7}}},
		{[]string{"b", "b"}, []string{"b"}, [][]int{{7}}},
	} {
		m, e := mask.Make(s, 1, c.paths)
		if e != api.Fine || !same(m.Ways, c.ways) {
			t.Errorf("Make of %q: %s, %v", c.paths, show(m.Ways), e)
		}
		if l, e := mask.Paths(s, 1, m); e != api.Fine || !slices.Equal(l, c.want) {
			t.Errorf("Paths of %s: %q, %v", show(m.Ways), l, e)
		}
	}
	m := mask.Of([][]int{{10, 2}, {}, {2}, {10, 1, 5}, {10, 1, 5, 9}, {10, 2}})
	if !same(m.Ways, [][]int{{2}, {10, 1, 5}, {10, 2}}) {
		t.Errorf("Of: %s", show(m.Ways))
	}
	if !m.Whole(2) || m.Whole(10) || m.Whole(1) || (mask.Mask{}).Whole(0) {
		t.Error("Whole")
	}
	if u, ok := m.Under(10); !ok || !same(u.Ways, [][]int{{1, 5}, {2}}) {
		t.Errorf("Under: %s, %v", show(u.Ways), ok)
	}
	if u, ok := m.Under(2); ok || len(u.Ways) > 0 {
		t.Errorf("Under of what is whole: %s, %v", show(u.Ways), ok)
	}
	if !mask.Has(m, []int{2}) || !mask.Has(m, []int{2, 7, 7}) || mask.Has(m, []int{10, 1}) || !mask.Has(m, []int{10, 1, 5}) || mask.Has(m, nil) || mask.Has(mask.Mask{}, []int{2}) || mask.Has(mask.Mask{Ways: [][]int{{}}}, []int{2}) {
		t.Error("Has")
	}
	n := mask.Of([][]int{{10}, {2, 1}, {3}})
	if u := mask.Union(m, n); !same(u.Ways, [][]int{{2}, {3}, {10}}) {
		t.Errorf("Union: %s", show(u.Ways))
	}
	if u := mask.Meet(m, n); !same(u.Ways, [][]int{{2, 1}, {10, 1, 5}, {10, 2}}) {
		t.Errorf("Meet: %s", show(u.Ways))
	}
}

// spoil the ways of an answer, and what may lie behind each.
func spoil(m mask.Mask) {
	for _, w := range m.Ways {
		for i := range w {
			w[i] = -77
		}
		_ = append(w, -77, -77)
	}
	for i := range m.Ways {
		m.Ways[i] = nil
	}
	_ = append(m.Ways, nil, nil)
}

// R4, R6: what is told is the caller's, in new memory, no two ways of it in the same; what was told before plays no part.
func TestNewMemory(t *testing.T) {
	whole := []int{5, 1, 5, 2, 5, 3, 7}
	given := [][]int{whole[0:2], whole[2:4], whole[4:6], whole[6:7]}
	other := [][]int{{5, 1, 1}, {7}, {5, 3}}
	a, b := mask.Mask{Ways: given}, mask.Mask{Ways: other}
	u, _ := a.Under(5)
	for _, told := range []struct {
		m    mask.Mask
		want [][]int
	}{
		{mask.Of(given), given},
		{mask.Of(other), [][]int{{5, 1, 1}, {5, 3}, {7}}},
		{mask.Union(a, b), given},
		{mask.Union(a, mask.Mask{}), given},
		{mask.Meet(a, b), [][]int{{5, 1, 1}, {5, 3}, {7}}},
		{mask.Meet(a, a), given},
		{u, [][]int{{1}, {2}, {3}}},
	} {
		if !same(told.m.Ways, told.want) {
			t.Errorf("told: %s, not %s", show(told.m.Ways), show(told.want))
		}
		for i, w := range told.m.Ways {
			_ = append(w, 99, 99)
			if i+1 < len(told.m.Ways) && !sameWay(told.m.Ways[i+1], told.want[i+1]) {
				t.Errorf("R4: what was put behind %s lies in the next way", show([][]int{w}))
			}
		}
		spoil(told.m)
		if !slices.Equal(whole, []int{5, 1, 5, 2, 5, 3, 7}) || !same(other, [][]int{{5, 1, 1}, {7}, {5, 3}}) {
			t.Fatalf("R4: what was told lies in what was handed in: %v, %s", whole, show(other))
		}
	}
	s := growing()
	for range 2 {
		m, e := mask.Make(s, 1, []string{"a.b", "i", "a.a"})
		if e != api.Fine || !same(m.Ways, [][]int{{9, 1}, {9, 2}, {536870911}}) {
			t.Errorf("Make: %s, %v", show(m.Ways), e)
		}
		l, e := mask.Paths(s, 1, m)
		if e != api.Fine || !slices.Equal(l, []string{"a.b", "a.a", "i"}) {
			t.Errorf("Paths: %q, %v", l, e)
		}
		w, e := mask.Resolve(s, 1, "a.b")
		if e != api.Fine || !sameWay(w, []int{9, 1}) {
			t.Errorf("Resolve: %s, %v", show([][]int{w}), e)
		}
		w[0], l[0] = 0, ""
		spoil(m)
	}
}

// R1, R5: very many ways, and very long ones.
func TestVeryLong(t *testing.T) {
	const long = 1 << 17
	far := slices.Repeat([]int{7}, long)
	near := append(slices.Clone(far[:long-1]), 8)
	ways := [][]int{near, far, far[:long/2], far[:0]}
	alone(t, ways, append(ways, far[:1]))
	alone(t, ways[:2], append(ways, far[:1]))
	pair(t, ways[:1], ways, ways)
	if l, e := mask.Paths(growing(), 1, mask.Of(ways)); len(l) > 0 || e != api.Mask {
		t.Errorf("Paths of a very long way: %.99q, %v", l, e)
	}
	many := make([][]int, long)
	for i := range many {
		many[long-1-i] = []int{i % 7, i}
	}
	m := mask.Of(many)
	if len(m.Ways) != long || !slices.IsSortedFunc(m.Ways, slices.Compare) || mask.Has(m, []int{3, 4}) || !mask.Has(m, []int{3, 3, 4}) {
		t.Errorf("Of very many ways: %d, %s", len(m.Ways), show(m.Ways))
	}
	some := mask.Mask{Ways: append(many[:long/2:long/2], []int{3})}
	if u, v := mask.Union(m, some), mask.Meet(some, m); len(u.Ways) != long-(long+3)/7+1 || len(v.Ways) <= long/2 || len(v.Ways) >= long {
		t.Errorf("Union and Meet of very many ways: %d, %d", len(u.Ways), len(v.Ways))
	}
	for _, p := range []string{strings.Repeat("b.", long), strings.Repeat("b.", long) + "b", strings.Repeat("b", long), strings.Repeat(".", long)} {
		if w, e := mask.Resolve(growing(), 1, p); len(w) > 0 || e != api.Mask {
			t.Errorf("Resolve of a very long text: %s, %v", show([][]int{w}), e)
		}
	}
}
