package utf_test

import (
	"bytes"
	"math"
	"testing"
	"unicode/utf8"

	"darning/utf"
)

// bytesOf are a code point's bytes as the document tells them, by division (it doesn't ask whether n is one).
func bytesOf(n int) []byte {
	switch {
	case n < 128:
		return longer(n, 1)
	case n < 2048:
		return longer(n, 2)
	case n < 65536:
		return longer(n, 3)
	}
	return longer(n, 4)
}

// longer are so many bytes that hold a number as a code point's bytes would.
func longer(n, size int) []byte {
	if size == 1 {
		return []byte{byte(n)}
	}
	heads := []int{0, 0, 192, 224, 240, 248, 252}
	b := make([]byte, size)
	for i := size - 1; i > 0; i-- {
		b[i] = byte(128 + n%64)
		n /= 64
	}
	b[0] = byte(heads[size] + n)
	return b
}

// isPoint: is it a code point's number?
func isPoint(n int) bool { return n >= 0 && n < 55296 || n > 57343 && n <= 1114111 }

// ends are the numbers around which code points change their length, or begin or end to be some.
func ends() []int {
	return []int{
		0, 1, 65, 126, 127, 128, 129, 191, 192, 255, 256, 2046, 2047, 2048, 2049, 4095, 4096, 32767, 32768,
		55294, 55295, 57344, 57345, 65533, 65534, 65535, 65536, 65537, 131071, 131072, 262143, 262144,
		1048575, 1048576, 1114109, 1114110, 1114111,
	}
}

// wrong are rows that begin with no code point, whatever stands behind them.
func wrong() [][]byte {
	l := [][]byte{}
	for c := 128; c < 194; c++ {
		l = append(l, []byte{byte(c)})
	}
	for c := 245; c < 256; c++ {
		l = append(l, []byte{byte(c)}, []byte{byte(c), 128, 128, 128}, []byte{byte(c), 191, 191, 191, 191})
	}
	for _, n := range []int{55296, 55297, 56319, 56320, 57342, 57343, 1114112, 1114113, 1179647, 1179648, 2097151} {
		l = append(l, bytesOf(n))
	}
	for _, n := range ends() {
		for size := len(bytesOf(n)) + 1; size <= 6; size++ {
			l = append(l, longer(n, size))
		}
	}
	return append(l, longer(2097152, 5), longer(67108863, 5), longer(67108864, 6), longer(2147483647, 6))
}

// rights are right texts.
func rights() [][]byte {
	l := [][]byte{nil, {}, []byte("a"), []byte("abc"), []byte("a\u00e9\u20ac\U0001f600z"), []byte("\ufeff\ufffd\uffff")}
	all := []byte{}
	for _, n := range ends() {
		l = append(l, bytesOf(n))
		all = append(all, bytesOf(n)...)
	}
	return append(l, all)
}

// defined are First and Count by another decoder.
func defined(b []byte) (at, points int) {
	for at < len(b) {
		r, size := utf8.DecodeRune(b[at:])
		if r == utf8.RuneError && size < 3 {
			break
		}
		at += size
		points++
	}
	return at, points
}

// check holds Right, First and Count against another decoder.
func check(t *testing.T, b []byte) {
	t.Helper()
	at, points := defined(b)
	if utf.First(b) != at || utf.Count(b) != points || utf.Right(b) != (at == len(b)) {
		t.Errorf("of %v: First %d, Count %d, Right %t; not %d, %d, %t",
			b, utf.First(b), utf.Count(b), utf.Right(b), at, points, at == len(b))
	}
}

// join puts rows one behind the other.
func join(rows ...[]byte) []byte { return bytes.Join(rows, nil) }

// P4.1: each number's bytes are right just if it is a code point; with bytes behind them, too, and never if cut off.
func TestAllNumbers(t *testing.T) {
	for n := range 2097152 {
		b := bytesOf(n)
		size, points := 0, 0
		if isPoint(n) {
			size, points = len(b), 1
		}
		if utf.First(b) != size || utf.Count(b) != points || utf.Right(b) != isPoint(n) {
			t.Fatalf("of the number %d: First %d, Count %d, Right %t", n, utf.First(b), utf.Count(b), utf.Right(b))
		}
		more := append(b, 255)
		if utf.First(more) != size || utf.Count(more) != points || utf.Right(more) {
			t.Fatalf("of the number %d, 255 behind it: First %d, Count %d", n, utf.First(more), utf.Count(more))
		}
		for cut := 1; cut < len(b); cut++ {
			if utf.First(b[:cut]) != 0 || utf.Count(b[:cut]) != 0 || utf.Right(b[:cut]) {
				t.Fatalf("of the number %d, cut to %d: First %d, Count %d", n, cut, utf.First(b[:cut]), utf.Count(b[:cut]))
			}
		}
	}
}

// P4.1: bytes that are longer than they need be aren't right.
func TestLonger(t *testing.T) {
	for n := range 65536 {
		for size := len(bytesOf(n)) + 1; size <= 4; size++ {
			b := longer(n, size)
			if utf.First(b) != 0 || utf.Count(b) != 0 || utf.Right(b) {
				t.Fatalf("of the number %d in %d bytes: First %d, Count %d", n, size, utf.First(b), utf.Count(b))
			}
		}
	}
}

// P4.1: all rows of up to two bytes, of three with one of 224 to 239 first, and many of four.
func TestShortRows(t *testing.T) {
	check(t, nil)
	for a := range 256 {
		check(t, []byte{byte(a)})
		for b := range 256 {
			check(t, []byte{byte(a), byte(b)})
			for c := 0; a>>4 == 14 && c < 256; c++ {
				check(t, []byte{byte(a), byte(b), byte(c)})
			}
		}
	}
	few := []byte{
		0, 65, 127, 128, 143, 144, 159, 160, 191, 192, 193, 194, 223, 224, 236, 237, 238, 239, 240, 241, 243, 244, 245, 247,
		248, 252, 255,
	}
	for _, a := range few {
		for _, b := range few {
			for _, c := range few {
				for _, d := range few {
					check(t, []byte{a, b, c, d})
				}
			}
		}
	}
}

// P4.1: behind right texts, what isn't right is where First ends, whatever stands behind it.
func TestWrongBehindRight(t *testing.T) {
	for _, ahead := range rights() {
		for _, w := range wrong() {
			for _, behind := range []string{"", "a", "\u20ac", "\x80\x80\x80"} {
				b := join(ahead, w, []byte(behind))
				if utf.First(b) != len(ahead) || utf.Count(b) != utf8.RuneCount(ahead) || utf.Right(b) {
					t.Errorf("of %v: First %d, Count %d, Right %t", b, utf.First(b), utf.Count(b), utf.Right(b))
				}
			}
		}
	}
}

// P4.1: the edges, and the chapter's examples.
func TestEdges(t *testing.T) {
	for _, c := range []struct {
		b         []byte
		at, count int
	}{
		{[]byte{97, 195}, 1, 1},
		{[]byte{97, 195, 169}, 3, 2},
		{nil, 0, 0},
		{[]byte{}, 0, 0},
		{[]byte{0}, 1, 1},
		{[]byte{127}, 1, 1},
		{[]byte{128}, 0, 0},
		{[]byte{191}, 0, 0},
		{[]byte{192, 128}, 0, 0},
		{[]byte{193, 191}, 0, 0},
		{[]byte{194, 128}, 2, 1},
		{[]byte{194, 127}, 0, 0},
		{[]byte{194, 192}, 0, 0},
		{[]byte{223, 191}, 2, 1},
		{[]byte{224, 128, 128}, 0, 0},
		{[]byte{224, 159, 191}, 0, 0},
		{[]byte{224, 160, 128}, 3, 1},
		{[]byte{224, 160}, 0, 0},
		{[]byte{224, 160, 127}, 0, 0},
		{[]byte{224, 160, 192}, 0, 0},
		{[]byte{237, 159, 191}, 3, 1},
		{[]byte{237, 160, 128}, 0, 0},
		{[]byte{237, 191, 191}, 0, 0},
		{[]byte{237, 160, 128, 237, 176, 128}, 0, 0},
		{[]byte{238, 128, 128}, 3, 1},
		{[]byte{239, 191, 189}, 3, 1},
		{[]byte{239, 191, 191}, 3, 1},
		{[]byte{240, 128, 128, 128}, 0, 0},
		{[]byte{240, 143, 191, 191}, 0, 0},
		{[]byte{240, 144, 128, 128}, 4, 1},
		{[]byte{240, 144, 128}, 0, 0},
		{[]byte{240, 144, 128, 65}, 0, 0},
		{[]byte{244, 143, 191, 191}, 4, 1},
		{[]byte{244, 144, 128, 128}, 0, 0},
		{[]byte{247, 191, 191, 191}, 0, 0},
		{[]byte{248, 136, 128, 128, 128}, 0, 0},
		{[]byte{252, 132, 128, 128, 128, 128}, 0, 0},
		{[]byte{254}, 0, 0},
		{[]byte{255}, 0, 0},
		{[]byte{97, 128, 98}, 1, 1},
		{[]byte{0, 0, 0, 255, 0}, 3, 3},
		{[]byte{195, 169, 226, 130, 172, 240, 159, 152, 128}, 9, 3},
		{[]byte{195, 169, 226, 130, 172, 240, 159, 152}, 5, 2},
		{[]byte{195, 169, 226, 130, 240, 159, 152, 128}, 2, 1},
	} {
		if utf.First(c.b) != c.at || utf.Count(c.b) != c.count || utf.Right(c.b) != (c.at == len(c.b)) {
			t.Errorf("of %v: First %d, Count %d, Right %t", c.b, utf.First(c.b), utf.Count(c.b), utf.Right(c.b))
		}
	}
}

// P4.1: of a long text.
func TestLong(t *testing.T) {
	b := bytes.Repeat([]byte("a\u00e9\u20ac\U0001f600"), 20000)
	if utf.First(b) != 200000 || utf.Count(b) != 80000 || !utf.Right(b) {
		t.Errorf("First %d, Count %d, Right %t", utf.First(b), utf.Count(b), utf.Right(b))
	}
	b[150002] = 195 // behind an a, the second byte of a code point of two
	if utf.First(b) != 150001 || utf.Count(b) != 60001 || utf.Right(b) {
		t.Errorf("one byte wrong: First %d, Count %d, Right %t", utf.First(b), utf.Count(b), utf.Right(b))
	}
}

// cutDefined is Cut by its definition: code points are taken while they have at most n bytes together.
func cutDefined(b []byte, n int) []byte {
	at := 0
	for at < len(b) {
		_, points := defined(b[at:])
		_, size := utf8.DecodeRune(b[at:])
		if points == 0 || at+size > n {
			break
		}
		at += size
	}
	return b[:at]
}

// P4.2: Cut takes the most code points that have at most n bytes, of right texts and of others, and changes nothing.
func TestCut(t *testing.T) {
	texts := rights()
	for _, w := range wrong() {
		texts = append(texts, w, join([]byte("a\u20ac"), w, []byte("b\u00e9")))
	}
	for _, b := range texts {
		before := bytes.Clone(b)
		for n := -2; n <= len(b)+2; n++ {
			if got := utf.Cut(b, n); !bytes.Equal(got, cutDefined(b, n)) {
				t.Errorf("Cut of %v to %d: %v", b, n, got)
			}
		}
		for _, n := range []int{math.MinInt, math.MinInt + 1, math.MinInt32, -100} {
			if got := utf.Cut(b, n); len(got) != 0 {
				t.Errorf("Cut of %v to %d: %v", b, n, got)
			}
		}
		for _, n := range []int{100000, math.MaxInt32, math.MaxInt - 1, math.MaxInt} {
			if got := utf.Cut(b, n); !bytes.Equal(got, b[:utf.First(b)]) {
				t.Errorf("Cut of %v to %d: %v", b, n, got)
			}
		}
		if !bytes.Equal(b, before) {
			t.Errorf("Cut changed %v to %v", before, b)
		}
	}
}

// P4.2: Cut at the edges: within a code point, of n below 0, and beyond the length.
func TestCutEdges(t *testing.T) {
	for _, c := range []struct {
		b    string
		n    int
		want string
	}{
		{"", -1, ""}, {"", 0, ""}, {"", 1, ""},
		{"a", -1, ""}, {"a", 0, ""}, {"a", 1, "a"}, {"a", 2, "a"},
		{"\u00e9", 1, ""}, {"\u00e9", 2, "\u00e9"}, {"\u00e9", 3, "\u00e9"},
		{"\u20ac", 1, ""}, {"\u20ac", 2, ""}, {"\u20ac", 3, "\u20ac"},
		{"\U0001f600", 1, ""}, {"\U0001f600", 2, ""}, {"\U0001f600", 3, ""}, {"\U0001f600", 4, "\U0001f600"},
		{"a\u20acb", 0, ""}, {"a\u20acb", 1, "a"}, {"a\u20acb", 2, "a"}, {"a\u20acb", 3, "a"},
		{"a\u20acb", 4, "a\u20ac"}, {"a\u20acb", 5, "a\u20acb"}, {"a\u20acb", 6, "a\u20acb"}, {"a\u20acb", math.MinInt, ""},
		{"a\xffb", 1, "a"}, {"a\xffb", 2, "a"}, {"a\xffb", 3, "a"}, {"a\xffb", math.MaxInt, "a"},
		{"\xffab", 3, ""}, {"a\xc3", 2, "a"}, {"ab\xe2\x82", 4, "ab"}, {"\xed\xa0\x80", 3, ""},
		{"\u00e9\xc0\x80\u00e9", 6, "\u00e9"}, {"\u00e9\u00e9\u00e9", 5, "\u00e9\u00e9"},
	} {
		if got := utf.Cut([]byte(c.b), c.n); string(got) != c.want {
			t.Errorf("Cut of %q to %d: %q", c.b, c.n, got)
		}
	}
}

// P4.2: what Cut tells is new memory, with no room of what is handed in behind it.
func TestCutIsNew(t *testing.T) {
	b := []byte("a\u20acb")
	for _, n := range []int{1, 4, 5, 9} {
		got := utf.Cut(b, n)
		want := string(got)
		got[0] = 'z'
		if got = append(got, 'y', 'y'); string(b) != "a\u20acb" {
			t.Fatalf("what was told of %d bytes changed, and with it what was handed in: %q", n, b)
		}
		got = utf.Cut(b, n)
		b[0] = 'x'
		if string(got) != want {
			t.Fatalf("told of %d bytes, and what was handed in changed: %q", n, got)
		}
		b[0] = 'a'
	}
}

// P4.3: what is cut is right, and no code point more would have had room.
func TestWhatIsCutIsRight(t *testing.T) {
	for _, b := range append(rights(), wrong()...) {
		for n := -1; n <= len(b)+1; n++ {
			got := utf.Cut(b, n)
			if !utf.Right(got) || len(got) > max(n, 0) || !bytes.HasPrefix(b, got) || utf.Count(got) > utf.Count(b) {
				t.Errorf("Cut of %v to %d: %v", b, n, got)
			}
			if !bytes.Equal(utf.Cut(got, n), got) || !bytes.Equal(utf.Cut(got, len(got)), got) {
				t.Errorf("cut once more, what was cut of %v to %d: %v", b, n, utf.Cut(got, n))
			}
			for size := 1; size <= 4 && len(got)+size <= min(n, len(b)); size++ {
				if utf.Right(b[:len(got)+size]) {
					t.Errorf("Cut of %v to %d: %v, though there is room for %d bytes more", b, n, got, size)
				}
			}
		}
	}
}

// P4.3: two right texts are right together, and have the code points of both.
func TestRightTogether(t *testing.T) {
	for _, a := range rights() {
		for _, b := range rights() {
			both := join(a, b)
			if !utf.Right(both) || utf.First(both) != len(a)+len(b) || utf.Count(both) != utf.Count(a)+utf.Count(b) {
				t.Errorf("%v, %v behind it: First %d, Count %d", a, b, utf.First(both), utf.Count(both))
			}
			if !bytes.Equal(utf.Cut(both, len(a)), a) {
				t.Errorf("%v, %v behind it, cut to the first one's length: %v", a, b, utf.Cut(both, len(a)))
			}
		}
	}
}

// P4.3: texts cut in two at a code point's end are right; cut within a code point, neither is.
func TestCutInTwo(t *testing.T) {
	b := []byte("a\u00e9\u20ac\U0001f600z\u00e9")
	whole := map[int]bool{0: true, 1: true, 3: true, 6: true, 10: true, 11: true, 13: true}
	for n := range len(b) + 1 {
		if utf.Right(b[:n]) != whole[n] || utf.Right(b[n:]) != whole[n] {
			t.Errorf("%q, cut at %d: %t, %t", b, n, utf.Right(b[:n]), utf.Right(b[n:]))
		}
	}
}
