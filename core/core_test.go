package core

import (
	"math"
	"strconv"
	"testing"

	"ostinato/api"
	"ostinato/class"
	"ostinato/show"
	"ostinato/syntax"
)

// one is a node of Kind 1, of the bytes of a text.
func one(text string) api.Node {
	return api.Node{Kind: 1, Set: class.Of([]byte(text)...)}
}

func cats(parts ...api.Node) api.Node {
	return api.Node{Kind: 2, Parts: parts}
}

func alts(parts ...api.Node) api.Node {
	return api.Node{Kind: 3, Parts: parts}
}

func repeat(n api.Node, lo, hi int64) api.Node {
	return api.Node{Kind: 4, Parts: []api.Node{n}, Lo: lo, Hi: hi}
}

// read is the tree of a text, in which a ~ stands for a class of no byte.
func read(t *testing.T, text string) api.Node {
	t.Helper()
	whole := ""
	for _, b := range []byte(text) {
		if b == '~' {
			whole += `[^\x00-\xff]`
		} else {
			whole += string([]byte{b})
		}
	}
	n, at, e := syntax.Parse(whole)
	if e != api.OK {
		t.Fatal(text, at, e)
	}
	return n
}

// told fails, if it isn't told so of a text's tree.
func told(t *testing.T, name string, tells func(api.Node) bool, want bool, texts ...string) {
	t.Helper()
	for _, text := range texts {
		if tells(read(t, text)) != want {
			t.Errorf("%s of %q isn't %v", name, text, want)
		}
	}
}

// P4.1: Void, of trees of each kind.
func TestVoid(t *testing.T) {
	told(t, "Void", Void, true,
		"~",
		"~a", "a~", "a~b", "~~", "a*~", "()~", "a(b~)", "a(~|~)", "a~{2}", "(a~)b", "~?~",
		"~|~", "~|~|~", "a~|~", "(~|~)|~", "~|~+",
		"~{1}", "~+", "~{1,2}", "~{2}", "~{2,}", "~{2147483647}", "~{2147483647,}", "(a~){3,4}", "(~|~)+", "~{2}{3}",
		"(a|(b~{2})+c)(~|(a~){1})",
	)
	told(t, "Void", Void, false,
		"", "()",
		"a", ".", "[^a]", `\x00`, `\xff`,
		"ab", "a()", "()()", "a~?", "a~{0}b", "a(~|b)", "~*~*",
		"a|~", "~|a", "~|", "|~", "~|a|~", "a|b", "a~|b", "(~|a)|~", "~|~?",
		"~*", "~?", "~{0}", "~{0,9}", "~{0,2147483647}", "(a~)*", "a{0}", "a*", "a{2,3}", "(~|a){2}", "~?{2}", "~*+", "(){2}",
		"(a|(b~{2})+c)(~|(a~){0})",
	)
}

// P4.1: Nullable, of trees of each kind.
func TestNullable(t *testing.T) {
	told(t, "Nullable", Nullable, true,
		"", "()",
		"()()", "a*b?", "a{0}b{0,}", "()a*", "(a|)(|b)", "~?a*", "~*~*",
		"a|", "|a", "a||b", "a|b*", "(a|b)|(c|)", "~|", "~|~?", "|",
		"a*", "a?", "a{0}", "a{0,5}", "a{0,}", "~*", "~{0}", "(ab){0,1}",
		"()+", "(){2}", "a?+", "a?{2,3}", "a*{5,}", "a{0}{7}", "(a|){2147483647}", "(a*b*)+", "a*{2}{3}",
	)
	told(t, "Nullable", Nullable, false,
		"a", ".", "~", `\x00`,
		"ab", "a*b", "ab*", "a?b?c", "()a", "a()", "a*~", "~()", "a*(b|c)",
		"a|b", "a|~", "~|~", "a|bc*", "a|b+", "(a|b)|c",
		"a+", "a{1}", "a{1,2}", "a{2,}", "~+", "~{2}", "a+{2}", "(a?b)+", "(a|~){2147483647,}", "(a*~)+",
	)
}

// P4.1: the simple tree of the first text's tree is the second one's.
func TestSimple(t *testing.T) {
	for _, c := range [][2]string{
		// Kind 0, and Kind 1.
		{"", ""}, {"a", "a"}, {".", "."}, {"[a-cx]", "[a-cx]"}, {"~", "~"},
		// What is void, of each kind.
		{"a~", "~"}, {"~a", "~"}, {"a*~b*", "~"}, {"()~", "~"}, {"a(b(c~))", "~"}, {"~|~", "~"}, {"~|(~|a~)", "~"}, {"~+", "~"}, {"~{1}", "~"}, {"~{2,3}", "~"}, {"(a~){5,}", "~"}, {"((a~|~){2}b)+", "~"}, {"~{2147483647}", "~"},
		// A CAT: CATs in it, Kind 0, none and one left.
		{"ab", "ab"}, {"aa", "aa"}, {"(ab)c", "abc"}, {"a(bc)", "abc"}, {"(ab)(cd)", "abcd"}, {"a((bc)d)e", "abcde"}, {"((a(bc))d)(e(fg))", "abcdefg"}, {"(ab)(ab)", "abab"},
		{"()a", "a"}, {"a()", "a"}, {"a()b", "ab"}, {"()a()b()", "ab"}, {"()()", ""}, {"(()())()", ""}, {"a(()())", "a"}, {"(a())(b())", "ab"}, {"a(()b)c", "abc"}, {"a{0}b", "b"}, {"a{0}b{0}", ""}, {"a~?b", "ab"}, {"~?~*", ""},
		{"(ab){1}c", "abc"}, {"a(bc){1}{1}", "abc"}, {"(ab|~)c", "abc"}, {"a(bc|bc)", "abc"}, {"a(bc|bc|~){1}d", "abcd"}, {"(ab)*c", "(ab)*c"}, {"a(b|c)", "a(b|c)"}, {"a(bc|d)e", "a(bc|d)e"},
		{"(a|b)()", "a|b"}, {"()(a*)", "a*"},
		// An ALT: ALTs in it, void parts, the same ones, and one left.
		{"a|b", "a|b"}, {"b|a", "b|a"}, {"a|(b|c)", "a|b|c"}, {"(a|b)|c", "a|b|c"}, {"(a|b)|(c|d)", "a|b|c|d"}, {"a|((b|c)|d)|e", "a|b|c|d|e"}, {"(a|(b|(c|d)))|e", "a|b|c|d|e"},
		{"a|~", "a"}, {"~|a", "a"}, {"~|a|~", "a"}, {"~|a|~|b", "a|b"}, {"a|(~|b)", "a|b"}, {"a|(~|~)|b", "a|b"}, {"a|b~", "a"}, {"a|~{2}", "a"}, {"~|ab", "ab"}, {"~|a*", "a*"},
		{"a|a", "a"}, {"a|a|a", "a"}, {"a|b|a", "a|b"}, {"b|a|b|a", "b|a"}, {"a|b|b|c|a|c", "a|b|c"}, {"ab|ab", "ab"}, {"ab|ba|ab", "ab|ba"}, {"a|(b|a)", "a|b"}, {"(a|b)|(b|a)", "a|b"}, {"(a|b)|(b|c)|(c|d)", "a|b|c|d"}, {"a*|a*|a+", "a*|a+"}, {"a{2}|a{2,2}|a{2,3}|a{1,2}|a{2,}", "a{2}|a{2,3}|a{1,2}|a{2,}"}, {"[ab]|[ba]|[a-b]|a", "[ab]|a"},
		{"a(bc)|(ab)c", "abc"}, {"a{1}|a", "a"}, {"a?{2}|a?{0,2}", "a?{0,2}"}, {"(a|a)b|a(b|b)", "ab"}, {"(a|b)c|(b|a)c", "(a|b)c|(b|a)c"}, {"abc|abd|abc", "abc|abd"},
		{"a|", "a|"}, {"|a", "|a"}, {"a|()|", "a|"}, {"|", ""}, {"||", ""}, {"|a||b|", "|a|b"}, {"|~", ""}, {"~||~", ""}, {"a|b{0}|c*", "a||c*"}, {"|~?|a", "|a"}, {"|a|()()", "|a"},
		{"(a|b){1}|c", "a|b|c"}, {"(a|b)()|c", "a|b|c"}, {"(()(a|b)){1}|(b|c)", "a|b|c"}, {"(a|b)*|c", "(a|b)*|c"}, {"a(b|c)|d", "a(b|c)|d"},
		// One repeated: what it is of nothing, of 1 to 1, and else.
		{"a{0}", ""}, {"(ab|c){0}", ""}, {"~{0}", ""}, {"(){0}", ""}, {"a*{0}", ""},
		{"()*", ""}, {"()+", ""}, {"(){5}", ""}, {"(()())*", ""}, {"(|){2,3}", ""}, {"a{0}+", ""}, {"a{0}{2}", ""}, {"~?{2}", ""},
		{"~*", ""}, {"~?", ""}, {"~{0,3}", ""}, {"(a~)*", ""}, {"(~|~)?", ""}, {"~{0,2147483647}", ""},
		{"a{1}", "a"}, {"a{1,1}", "a"}, {"a{1}{1}{1}", "a"}, {"(ab){1}", "ab"}, {"(a|b){1}", "a|b"}, {"a?{1}", "a?"}, {"a{1}{2}", "a{2}"}, {"a{2}{1}", "a{2}"}, {"(){1}", ""},
		{"a?", "a?"}, {"a*", "a*"}, {"a+", "a+"}, {"a{2}", "a{2}"}, {"a{1,2}", "a{1,2}"}, {"a{2,}", "a{2,}"}, {"a{0,9}", "a{0,9}"}, {"a{2147483647}", "a{2147483647}"}, {"(a{2}){3}", "a{2}{3}"}, {"a{1,2}{1,3}", "a{1,2}{1,3}"}, {"a**", "a**"}, {"a??", "a??"},
		{"(a?){3,5}", "a?{0,5}"}, {"a?{2}", "a?{0,2}"}, {"a*+", "a**"}, {"a?+", "a?*"}, {"a*{7,}", "a**"}, {"(a|)+", "(a|)*"}, {"(a*b?){2,3}", "(a*b?){0,3}"}, {"a?{2}{3}", "a?{0,2}{0,3}"}, {"a?{1,2147483647}", "a?{0,2147483647}"}, {"a?{2147483647}", "a?{0,2147483647}"}, {"(a|b{0})+", "(a|)*"}, {"(~?a*){2}", "a*{0,2}"}, {"a+{2,3}", "a+{2,3}"}, {"(a?b){2,3}", "(a?b){2,3}"},
		{"(ab|~){2}", "(ab){2}"}, {"((ab)c)*", "(abc)*"}, {"(a|(b|a)){2}", "(a|b){2}"}, {"(a()){2}", "a{2}"},
		// Some of each.
		{"(ab)(c|(d|c))", "ab(c|d)"}, {"(a|~)b", "ab"}, {"((a|a){1}(b()|~)){1}|(ab)", "ab"}, {"(((a?){2}|b~){1}|)+()", "(a?{0,2}|)*"},
	} {
		got, e := Simple(read(t, c[0]))
		if want := read(t, c[1]); e != api.OK || !syntax.Same(got, want) {
			t.Errorf("%q: %d %q, not %q", c[0], e, show.Text(got), c[1])
		}
	}
}

// P4.1: classes of one byte of each word alone are not void, and stay as they are.
func TestOneByte(t *testing.T) {
	for b := range 256 {
		n := api.Node{Kind: 1, Set: class.Of(byte(b))}
		if s, e := Simple(n); Void(n) || Nullable(n) || e != api.OK || !syntax.Same(s, n) {
			t.Error(b, s, e)
		}
	}
}

// P4.1: an ALT of many different parts, and of many that are the same, or the same to some depth.
func TestManyParts(t *testing.T) {
	var all, twice []api.Node
	for i := range 20000 {
		text := strconv.Itoa(i)
		n := cats(one("a"), repeat(one(text), 2, 3), alts(one("b"), repeat(cats(one("x"), one("y")), int64(i), -1)))
		all = append(all, n)
		twice = append(twice, n, cats(one("a"), cats(repeat(alts(one(text), one(text)), 2, 3), alts(one("b"), repeat(cats(one("x"), one("y")), int64(i), -1)))))
	}
	want, e := Simple(alts(all...))
	if e != api.OK || len(want.Parts) != len(all) {
		t.Error(e, len(want.Parts))
	}
	if got, e := Simple(alts(twice...)); e != api.OK || !syntax.Same(got, want) {
		t.Error(e, len(got.Parts))
	}
	long := func(last string) api.Node {
		var l []api.Node
		for range 500 {
			l = append(l, one("a"))
		}
		return cats(append(l, one(last))...)
	}
	got, e := Simple(alts(long("a"), long("b"), long("a"), long("b"), long("c")))
	if e != api.OK || !syntax.Same(got, alts(long("a"), long("b"), long("c"))) {
		t.Error(e, show.Text(got))
	}
}

// unformed are trees of which one node isn't formed; were that not asked, some would be void, or nullable.
func unformed() []api.Node {
	a, some := one("a"), api.Class{1}
	two := []api.Node{a, a}
	l := []api.Node{
		{Set: some}, {Parts: two}, {Lo: 1}, {Hi: -1}, {Hi: 1},
		{Kind: 1, Parts: two}, {Kind: 1, Lo: 1}, {Kind: 1, Hi: -1}, {Kind: 1, Set: some, Parts: []api.Node{{}}},
		{Kind: 2}, {Kind: 2, Parts: two[:1]}, {Kind: 2, Parts: []api.Node{{Kind: 1}}}, {Kind: 2, Parts: []api.Node{{}}}, {Kind: 2, Parts: []api.Node{{}, {}}, Hi: 1}, {Kind: 2, Parts: two, Set: some},
		{Kind: 3}, {Kind: 3, Parts: two[:1]}, {Kind: 3, Parts: []api.Node{{Kind: 1}}}, {Kind: 3, Parts: []api.Node{{}}}, {Kind: 3, Parts: []api.Node{{}, {}}, Lo: 1}, {Kind: 3, Parts: two, Set: some},
		{Kind: 4}, {Kind: 4, Hi: -1}, {Kind: 4, Lo: 1, Hi: 1}, {Kind: 4, Hi: -1, Parts: two}, {Kind: 4, Lo: 1, Hi: 1, Parts: []api.Node{{Kind: 1}, a}}, {Kind: 4, Hi: -1, Parts: two[:1], Set: some},
		{Kind: 5}, {Kind: 7}, {Kind: -1}, {Kind: 257}, {Kind: math.MaxInt, Parts: two}, {Kind: math.MinInt, Parts: two[:1], Hi: -1},
	}
	for _, b := range [][2]int64{{-1, -1}, {-1, 0}, {1, 0}, {0, -2}, {3, 2}, {0, api.MaxBound + 1}, {api.MaxBound + 1, -1}, {math.MinInt64, -1}, {math.MaxInt64, math.MaxInt64}, {0, math.MinInt64}} {
		l = append(l, repeat(a, b[0], b[1]), repeat(api.Node{Kind: 1}, b[0], b[1]), repeat(api.Node{}, b[0], b[1]))
	}
	return l
}

// P4.1: trees that aren't formed, wherever in them the fault is.
func TestUnformed(t *testing.T) {
	void := api.Node{Kind: 1}
	for _, n := range unformed() {
		for _, m := range []api.Node{
			n, cats(n, void), cats(void, n), alts(n, api.Node{}), alts(api.Node{}, n), repeat(n, 0, -1), repeat(n, 0, 0), repeat(n, 1, 1),
			cats(cats(n, void), void), alts(alts(api.Node{}, n), api.Node{}), repeat(repeat(n, 1, 1), 0, 0), alts(void, repeat(cats(void, n), 1, -1)),
		} {
			if s, e := Simple(m); e != api.ErrArg || !syntax.Same(s, api.Node{}) || Void(m) || Nullable(m) {
				t.Error(m, s, e, Void(m), Nullable(m))
			}
		}
	}
}
