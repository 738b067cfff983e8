package show

import (
	"math"
	"runtime/debug"
	"slices"
	"strings"
	"testing"

	"ostinato/api"
	"ostinato/class"
	"ostinato/syntax"
)

// one is a node of Kind 1, of the bytes of a text.
func one(text string) api.Node {
	return api.Node{Kind: 1, Set: class.Of([]byte(text)...)}
}

func of(c api.Class) api.Node {
	return api.Node{Kind: 1, Set: c}
}

func row(parts ...api.Node) api.Node {
	return api.Node{Kind: 2, Parts: parts}
}

func either(parts ...api.Node) api.Node {
	return api.Node{Kind: 3, Parts: parts}
}

func repeat(n api.Node, lo, hi int64) api.Node {
	return api.Node{Kind: 4, Parts: []api.Node{n}, Lo: lo, Hi: hi}
}

// writes fails, if a tree's text isn't that one.
func writes(t *testing.T, n api.Node, want string) {
	t.Helper()
	if got := Text(n); got != want {
		t.Errorf("%v: %q, not %q", n, got, want)
	}
}

// byteText is what a byte is written as, told plainly.
func byteText(i int) string {
	const plain = "!\"#$%&',/0123456789:;<=>@ABCDEFGHIJKLMNOPQRSTUVWXYZ_`abcdefghijklmnopqrstuvwxyz~"
	const digits = "0123456789abcdef"
	b := string([]byte{byte(i)})
	switch {
	case strings.Contains(plain, b):
		return b
	case strings.Contains("()[]{}|*+?.\\-^", b):
		return "\\" + b
	case i == 9:
		return "\\t"
	case i == 10:
		return "\\n"
	}
	return "\\x" + digits[i/16:i/16+1] + digits[i%16:i%16+1]
}

// P3.1: the text of each byte, alone and as a tree.
func TestBytes(t *testing.T) {
	for i := range 256 {
		want := byteText(i)
		if got := Byte(byte(i)); got != want {
			t.Errorf("%d: %q, not %q", i, got, want)
		}
		writes(t, of(class.Of(byte(i))), want)
	}
	for b, want := range map[byte]string{
		0: "\\x00", 8: "\\x08", 9: "\\t", 10: "\\n", 11: "\\x0b", 13: "\\x0d", 31: "\\x1f", ' ': "\\x20", '!': "!", '~': "~", 127: "\\x7f", 128: "\\x80", 255: "\\xff",
		'(': "\\(", '\\': "\\\\", '-': "\\-", '^': "\\^", ']': "\\]", '"': "\"", '/': "/", 'n': "n", 't': "t", 'x': "x", '$': "$",
	} {
		if got := Byte(b); got != want {
			t.Errorf("%d: %q, not %q", b, got, want)
		}
	}
}

// runText is what the bytes from lo to hi are written as between [ and ], told plainly: none, if lo is above hi.
func runText(lo, hi int) string {
	switch {
	case lo > hi:
		return ""
	case lo == hi:
		return byteText(lo)
	case lo+1 == hi:
		return byteText(lo) + byteText(hi)
	}
	return byteText(lo) + "-" + byteText(hi)
}

// P3.1: classes of each run, and of all but each run.
func TestRuns(t *testing.T) {
	for lo := range 256 {
		for hi := lo; hi < 256; hi++ {
			c := class.Range(byte(lo), byte(hi))
			in, out := "["+runText(lo, hi)+"]", "["+runText(0, lo-1)+runText(hi+1, 255)+"]"
			switch {
			case lo == 0 && hi == 255:
				in, out = ".", "[^\\x00-\\xff]"
			case lo == hi:
				in = byteText(lo)
			case lo == 0 && hi == 254:
				out = byteText(255)
			case lo == 1 && hi == 255:
				out = byteText(0)
			}
			writes(t, of(c), in)
			writes(t, of(class.Not(c)), out)
		}
	}
}

// P3.1: classes of all bytes, of none, and of runs of one, two and more bytes beside each other.
func TestSets(t *testing.T) {
	for want, c := range map[string]api.Class{
		".":                                class.Range(0, 255),
		"[^\\x00-\\xff]":                   {},
		"a":                                class.Of('a'),
		"\\-":                              class.Of('-'),
		"[ab]":                             class.Of('b', 'a'),
		"[ac]":                             class.Of('a', 'c'),
		"[a-c]":                            class.Of('a', 'c', 'b'),
		"[a-d]":                            class.Range('a', 'd'),
		"[ac-eghk]":                        class.Of('a', 'c', 'd', 'e', 'g', 'h', 'k'),
		"[abd-f]":                          class.Of('a', 'b', 'd', 'e', 'f'),
		"[a-ceg-i]":                        class.Of('a', 'b', 'c', 'e', 'g', 'h', 'i'),
		"[\\x00-ac-\\xff]":                 class.Not(class.Of('b')),
		"[\\x01-\\xff]":                    class.Not(class.Of(0)),
		"[\\x00-\\xfe]":                    class.Not(class.Of(255)),
		"[\\x00\\xff]":                     class.Of(0, 255),
		"[\\x00\\x01\\xfe\\xff]":           class.Of(0, 1, 254, 255),
		"[\\t\\n]":                         class.Of(9, 10),
		"[\\t-\\x0b]":                      class.Range(9, 11),
		"[\\x08-\\n]":                      class.Range(8, 10),
		"[\\(-\\+]":                        class.Range('(', '+'),
		"[,\\-]":                           class.Of(',', '-'),
		"[,-\\.]":                          class.Range(',', '.'),
		"[\\--0]":                          class.Range('-', '0'),
		"[\\[-\\]]":                        class.Range('[', ']'),
		"[\\]\\^]":                         class.Of(']', '^'),
		"[\\^a]":                           class.Of('^', 'a'),
		"[\\?@\\x7f\\x80\\xbf\\xc0]":       {1 << 63, 1 | 1<<63, 1 | 1<<63, 1},
		"[\\x00-\\x1f@-_\\x80-\\x9f\\xff]": {1<<32 - 1, 1<<32 - 1, 1<<32 - 1, 1 << 63},
	} {
		writes(t, of(c), want)
	}
	// As many runs as there can be, of one byte, and of two.
	var ones, twos api.Class
	wantOnes, wantTwos := "", ""
	for i := range 256 {
		if i%2 == 1 {
			ones = class.Or(ones, class.Of(byte(i)))
			wantOnes += byteText(i)
		}
		if i%3 != 2 {
			twos = class.Or(twos, class.Of(byte(i)))
			wantTwos += byteText(i)
		}
	}
	writes(t, of(ones), "["+wantOnes+"]")
	writes(t, of(twos), "["+wantTwos+"]")
}

// P3.1: where brackets stand, and where they don't, and what is written of Kind 0.
func TestBrackets(t *testing.T) {
	a, b, c, none := one("a"), one("b"), one("c"), api.Node{}
	star := repeat(a, 0, -1)
	for _, w := range []struct {
		n    api.Node
		want string
	}{
		// An ALT in an ALT, in a CAT, repeated.
		{either(a, b), "a|b"},
		{either(a, b, c), "a|b|c"},
		{either(either(a, b), c), "(a|b)|c"},
		{either(a, either(b, c)), "a|(b|c)"},
		{either(a, either(b, either(c, a))), "a|(b|(c|a))"},
		{row(either(a, b), c), "(a|b)c"},
		{row(a, either(b, c)), "a(b|c)"},
		{row(a, either(b, c), a), "a(b|c)a"},
		{repeat(either(a, b), 0, -1), "(a|b)*"},
		// A CAT in a CAT, repeated, and in an ALT.
		{row(a, b), "ab"},
		{row(a, b, c), "abc"},
		{row(row(a, b), c), "(ab)c"},
		{row(a, row(b, c)), "a(bc)"},
		{row(a, row(b, row(c, a))), "a(b(ca))"},
		{repeat(row(a, b), 3, 3), "(ab){3}"},
		{either(row(a, b), c), "ab|c"},
		{either(row(a, b), row(b, c)), "ab|bc"},
		{either(row(row(a, b), c), a), "(ab)c|a"},
		// One that is repeated.
		{row(star, b), "a*b"},
		{row(b, star), "ba*"},
		{either(star, b), "a*|b"},
		{either(b, star), "b|a*"},
		{repeat(star, 0, -1), "a**"},
		{repeat(repeat(repeat(a, 2, 3), 0, 1), 1, -1), "a{2,3}?+"},
		{repeat(repeat(row(a, b), 0, -1), 0, 1), "(ab)*?"},
		{repeat(repeat(either(a, b), 2, -1), 5, 5), "(a|b){2,}{5}"},
		{repeat(row(star, b), 1, -1), "(a*b)+"},
		// Kind 0: alone, in an ALT, in a CAT, repeated.
		{none, ""},
		{either(none, none), "|"},
		{either(a, none), "a|"},
		{either(none, a), "|a"},
		{either(a, none, b), "a||b"},
		{row(none, none), "()()"},
		{row(a, none), "a()"},
		{row(none, a), "()a"},
		{row(a, none, b), "a()b"},
		{repeat(none, 0, -1), "()*"},
		{repeat(none, 2, 2), "(){2}"},
		{repeat(repeat(none, 0, 1), 0, 1), "()??"},
		{either(none, either(none, none)), "|(|)"},
		{either(row(none, none), none), "()()|"},
		{row(either(none, none), none), "(|)()"},
		{row(row(none, none), none), "(()())()"},
		{repeat(either(none, a), 1, -1), "(|a)+"},
		// Some of each.
		{repeat(either(row(a, b), c), 2, 2), "(ab|c){2}"},
		{row(repeat(row(either(a, b), c), 0, 1), either(row(a, none), star)), "((a|b)c)?(a()|a*)"},
		{row(one("ab"), repeat(of(class.Not(api.Class{})), 0, -1), repeat(one("("), 0, 9), repeat(api.Node{Kind: 1}, 0, 1)), "[ab].*\\({0,9}[^\\x00-\\xff]?"},
		// Lists without elements, not nil.
		{api.Node{Parts: []api.Node{}}, ""},
		{row(api.Node{Kind: 1, Parts: []api.Node{}}, api.Node{Parts: []api.Node{}}), "[^\\x00-\\xff]()"},
	} {
		writes(t, w.n, w.want)
	}
}

// P3.1: each way of bounds.
func TestTimes(t *testing.T) {
	a := one("a")
	for _, w := range []struct {
		lo, hi int64
		want   string
	}{
		{0, -1, "a*"}, {1, -1, "a+"}, {0, 1, "a?"},
		{0, 0, "a{0}"}, {1, 1, "a{1}"}, {2, 2, "a{2}"}, {10, 10, "a{10}"}, {api.MaxBound, api.MaxBound, "a{2147483647}"},
		{2, -1, "a{2,}"}, {10, -1, "a{10,}"}, {api.MaxBound, -1, "a{2147483647,}"},
		{0, 2, "a{0,2}"}, {1, 2, "a{1,2}"}, {2, 3, "a{2,3}"}, {9, 10, "a{9,10}"}, {0, api.MaxBound, "a{0,2147483647}"}, {1, api.MaxBound, "a{1,2147483647}"},
		{api.MaxBound - 1, api.MaxBound, "a{2147483646,2147483647}"},
	} {
		writes(t, repeat(a, w.lo, w.hi), w.want)
		writes(t, row(repeat(row(a, a), w.lo, w.hi), a), "(aa)"+w.want[1:]+"a")
	}
}

// unformed are trees of which one node isn't formed.
func unformed() []api.Node {
	a, some := one("a"), api.Class{1}
	two := []api.Node{a, a}
	l := []api.Node{
		{Set: some}, {Parts: two[:1]}, {Parts: two}, {Lo: 1}, {Hi: 1}, {Hi: -1},
		{Kind: 1, Set: some, Parts: two}, {Kind: 1, Parts: []api.Node{{}}}, {Kind: 1, Set: some, Lo: 1}, {Kind: 1, Set: some, Hi: -1},
		{Kind: 2}, {Kind: 2, Parts: two[:1]}, {Kind: 2, Parts: two, Set: some}, {Kind: 2, Parts: two, Lo: 1}, {Kind: 2, Parts: two, Hi: -1},
		{Kind: 3}, {Kind: 3, Parts: two[:1]}, {Kind: 3, Parts: two, Set: some}, {Kind: 3, Parts: two, Lo: 1}, {Kind: 3, Parts: two, Hi: -1},
		{Kind: 4}, {Kind: 4, Hi: -1}, {Kind: 4, Hi: -1, Parts: two}, {Kind: 4, Hi: -1, Parts: two[:1], Set: some},
		{Kind: 5}, {Kind: -1}, {Kind: 9, Set: some}, {Kind: 257, Set: some}, {Kind: math.MaxInt, Parts: two}, {Kind: math.MinInt, Parts: two[:1], Hi: -1},
	}
	for _, b := range [][2]int64{{-1, -1}, {-1, 0}, {1, 0}, {0, -2}, {3, 2}, {0, api.MaxBound + 1}, {api.MaxBound + 1, -1}, {math.MinInt64, -1}, {math.MaxInt64, math.MaxInt64}, {0, math.MinInt64}} {
		l = append(l, repeat(a, b[0], b[1]))
	}
	return l
}

// P3.1: nothing is written of trees that aren't formed, wherever in them the fault is.
func TestUnformed(t *testing.T) {
	a := one("a")
	for _, n := range unformed() {
		for _, m := range []api.Node{n, row(n, a), row(a, n), either(n, a), either(a, a, n), repeat(n, 0, -1), row(a, either(a, repeat(row(a, n), 1, 1)), a)} {
			writes(t, m, "")
		}
	}
}

// P3.1, R1: trees that no text is read as, as they are too deep or have too many places, are written as well, also those that are deeper than calls may be.
func TestBeyondLimits(t *testing.T) {
	defer debug.SetMaxStack(debug.SetMaxStack(1 << 20))
	a := one("a")
	writes(t, row(slices.Repeat([]api.Node{a}, 5000)...), strings.Repeat("a", 5000))
	writes(t, either(make([]api.Node, 5001)...), strings.Repeat("|", 5000))
	const depth = 100000
	n, wrong := a, api.Node{Kind: 5}
	for range depth {
		n, wrong = repeat(n, 0, -1), repeat(wrong, 0, -1)
	}
	writes(t, wrong, "")
	if Text(n) != "a"+strings.Repeat("*", depth) {
		t.Error("repeated")
	}
	n = a
	for range depth {
		n = row(either(n, a), a)
	}
	if Text(n) != strings.Repeat("(", depth-1)+"(a"+strings.Repeat("|a)a", depth) {
		t.Error("in rows")
	}
}

// R5, and LANGUAGE's rule 7: what is handed in is left as it is, its spare room too, and nothing is kept of it.
func TestLeftAlone(t *testing.T) {
	room := []api.Node{one("a"), repeat(either(one("b"), api.Node{}), 1, 2), one("c"), one("d")}
	given := slices.Clone(room)
	n := row(room[:2]...)
	for range 2 {
		writes(t, n, "a(b|){1,2}")
		writes(t, either(n, n), "a(b|){1,2}|a(b|){1,2}")
	}
	if !slices.EqualFunc(room, given, syntax.Same) {
		t.Error("changed", room)
	}
	room[0] = one("z")
	writes(t, n, "z(b|){1,2}")
}
