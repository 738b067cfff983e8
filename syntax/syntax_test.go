package syntax

import (
	"slices"
	"strconv"
	"strings"
	"testing"

	"ostinato/api"
)

// setOf is a class made bit by bit, to hold what is read against.
func setOf(text string) api.Class {
	var c api.Class
	for i := range len(text) {
		c[text[i]/64] |= 1 << (text[i] % 64)
	}
	return c
}

// but is all that isn't in c.
func but(c api.Class) api.Class {
	return api.Class{^c[0], ^c[1], ^c[2], ^c[3]}
}

// one is a node of Kind 1, of the bytes of a text.
func one(text string) api.Node {
	return api.Node{Kind: 1, Set: setOf(text)}
}

func row(parts ...api.Node) api.Node {
	return api.Node{Kind: 2, Parts: parts}
}

func either(parts ...api.Node) api.Node {
	return api.Node{Kind: 3, Parts: parts}
}

func times(n api.Node, lo, hi int64) api.Node {
	return api.Node{Kind: 4, Parts: []api.Node{n}, Lo: lo, Hi: hi}
}

// alike holds two trees against each other plainly.
func alike(a, b api.Node) bool {
	return a.Kind == b.Kind && a.Set == b.Set && a.Lo == b.Lo && a.Hi == b.Hi && slices.EqualFunc(a.Parts, b.Parts, alike)
}

// reads fails, if a text isn't read as that tree.
func reads(t *testing.T, text string, want api.Node) {
	t.Helper()
	n, at, e := Parse(text)
	if e != api.OK || at != 0 || !alike(n, want) {
		t.Errorf("%q: %v %d %d, not %v", text, n, at, e, want)
	}
}

// fails fails, if a text has not just that error at that place.
func fails(t *testing.T, text string, at int, e api.Errno) {
	t.Helper()
	n, gotAt, gotE := Parse(text)
	if gotE != e || gotAt != at || !alike(n, api.Node{}) {
		t.Errorf("%q: %v %d %d, not %d %d", text, n, gotAt, gotE, at, e)
	}
}

// P2.1: trees of rows, brackets and what is repeated.
func TestTrees(t *testing.T) {
	a, b, c, none := one("a"), one("b"), one("c"), api.Node{}
	for text, want := range map[string]api.Node{
		"":              none,
		"()":            none,
		"((()))":        none,
		"a":             a,
		"((a))":         a,
		"ab":            row(a, b),
		"abc":           row(a, b, c),
		"(ab)c":         row(row(a, b), c),
		"a(bc)":         row(a, row(b, c)),
		"(abc)":         row(a, b, c),
		"()()":          row(none, none),
		"a()b":          row(a, none, b),
		"a|b":           either(a, b),
		"a|b|c":         either(a, b, c),
		"(a|b)|c":       either(either(a, b), c),
		"a|(b|c)":       either(a, either(b, c)),
		"|":             either(none, none),
		"a|":            either(a, none),
		"|a":            either(none, a),
		"a||b":          either(a, none, b),
		"()|":           either(none, none),
		"ab|bc":         either(row(a, b), row(b, c)),
		"a(b|c)":        row(a, either(b, c)),
		"(a|b)c":        row(either(a, b), c),
		"(|)":           either(none, none),
		"a*":            times(a, 0, -1),
		"a+":            times(a, 1, -1),
		"a?":            times(a, 0, 1),
		"a{3}":          times(a, 3, 3),
		"a{3,}":         times(a, 3, -1),
		"a{3,5}":        times(a, 3, 5),
		"a{3,3}":        times(a, 3, 3),
		"a{0}":          times(a, 0, 0),
		"a{0,}":         times(a, 0, -1),
		"a{0,0}":        times(a, 0, 0),
		"a{007,0010}":   times(a, 7, 10),
		"a{9,10}":       times(a, 9, 10),
		"ab*":           row(a, times(b, 0, -1)),
		"(ab)*":         times(row(a, b), 0, -1),
		"a*b":           row(times(a, 0, -1), b),
		"a|b*":          either(a, times(b, 0, -1)),
		"(a|b)*":        times(either(a, b), 0, -1),
		"a**":           times(times(a, 0, -1), 0, -1),
		"a{2}{3,4}+?":   times(times(times(times(a, 2, 2), 3, 4), 1, -1), 0, 1),
		"()*":           times(none, 0, -1),
		"(){2}":         times(none, 2, 2),
		"(|a)+":         times(either(none, a), 1, -1),
		"((a*)b{2}|)c?": row(either(row(times(a, 0, -1), times(b, 2, 2)), none), times(c, 0, 1)),
	} {
		reads(t, text, want)
	}
	reads(t, "a{2147483647}", times(a, api.MaxBound, api.MaxBound))
	reads(t, "a{2147483647,}", times(a, api.MaxBound, -1))
	reads(t, "a{2147483646,00002147483647}", times(a, api.MaxBound-1, api.MaxBound))
}

// P2.1: atoms of one byte, each byte: as itself, behind a \, and by its number.
func TestBytes(t *testing.T) {
	const digits = "0123456789abcdef"
	for i := range 256 {
		b := string([]byte{byte(i)})
		switch {
		case strings.Contains("*+?{}])", b):
			fails(t, b, 0, api.ErrSyntax)
		case strings.Contains("([\\", b):
			fails(t, b, 1, api.ErrSyntax)
		case b == ".":
			reads(t, b, api.Node{Kind: 1, Set: but(api.Class{})})
		case b == "|":
			reads(t, b, either(api.Node{}, api.Node{}))
		default:
			reads(t, b, one(b))
		}
		switch {
		case strings.Contains("()[]{}|*+?.\\-^", b):
			reads(t, "\\"+b, one(b))
		case b == "n":
			reads(t, "\\"+b, one("\n"))
		case b == "t":
			reads(t, "\\"+b, one("\t"))
		case b == "x":
			fails(t, "\\"+b, 2, api.ErrSyntax)
		default:
			fails(t, "\\"+b, 1, api.ErrSyntax)
		}
		reads(t, "\\x"+digits[i/16:i/16+1]+digits[i%16:i%16+1], one(b))
		if !strings.Contains(digits, b) {
			fails(t, "\\x"+b+"0", 2, api.ErrSyntax)
			fails(t, "\\x0"+b, 3, api.ErrSyntax)
		}
	}
}

// P2.1: items, each byte: alone, behind a \, by its number, and as either end of a range.
func TestItems(t *testing.T) {
	for i := range 256 {
		b := string([]byte{byte(i)})
		number := "\\x" + strconv.FormatInt(int64(256+i), 16)[1:]
		reads(t, "["+number+"]", one(b))
		reads(t, "["+number+"-"+number+"]", one(b))
		reads(t, "[^"+number+"]", api.Node{Kind: 1, Set: but(setOf(b))})
		upTo, from := api.Class{}, api.Class{}
		for j := range 256 {
			if j <= i {
				upTo[j/64] |= 1 << (j % 64)
			}
			if j >= i {
				from[j/64] |= 1 << (j % 64)
			}
		}
		reads(t, "[\\x00-"+number+"]", api.Node{Kind: 1, Set: upTo})
		reads(t, "["+number+"-\\xff]", api.Node{Kind: 1, Set: from})
		if i > 0 {
			fails(t, "["+number+"-\\x00]", 5, api.ErrSyntax)
		}
		switch b {
		case "\\":
			fails(t, "["+b+"]", 3, api.ErrSyntax)
		case "^":
			fails(t, "["+b+"]", 2, api.ErrSyntax)
			fails(t, "[a"+b+"]", 2, api.ErrSyntax)
		case "]", "-":
			fails(t, "["+b+"]", 1, api.ErrSyntax)
			fails(t, "[^"+b+"]", 2, api.ErrSyntax)
			fails(t, "[\\x00-"+b+"]", 6, api.ErrSyntax)
		default:
			reads(t, "["+b+"]", one(b))
			reads(t, "[\\x00-"+b+"]", api.Node{Kind: 1, Set: upTo})
			reads(t, "["+b+"-\\xff]", api.Node{Kind: 1, Set: from})
		}
	}
	for text, want := range map[string]api.Class{
		"[abc]":           setOf("abc"),
		"[cab]":           setOf("abc"),
		"[aaa]":           setOf("a"),
		"[a-cb-de]":       setOf("abcde"),
		"[()[{}|*+?.$]":   setOf("()[{}|*+?.$"),
		"[\\n\\t]":        setOf("\n\t"),
		"[\\t-\\n]":       setOf("\t\n"),
		"[\\]\\-\\^\\\\]": setOf("]-^\\"),
		"[*-\\-]":         setOf("*+,-"),
		"[\\--0]":         setOf("-./0"),
		"[a-a]":           setOf("a"),
		"[^a-c\\x00]":     but(setOf("abc\x00")),
		"[^\\^]":          but(setOf("^")),
		"[^\\x00-\\xff]":  {},
		"[^.]":            but(setOf(".")),
	} {
		reads(t, text, api.Node{Kind: 1, Set: want})
	}
}

// P2.1: the first byte with which no expression goes on, and texts that are over too early.
func TestWrongTexts(t *testing.T) {
	for text, at := range map[string]int{
		// No expression goes on.
		"*": 0, "+": 0, "?": 0, "{": 0, "{2}": 0, "}": 0, "]": 0, ")": 0,
		"(*a)": 1, "(?": 1, "a|*": 2, "a|{2}": 2, "a|+b": 2, "ab)": 2, "(a))b": 3, "a]": 1, "a}": 1, "a{2}}": 4,
		"a{,2}": 2, "a{}": 2, "a{x": 2, "a{-1}": 2, "a{2x}": 3, "a{2 }": 3, "a{ 2}": 2, "a{2,,}": 4, "a{2,x}": 4, "a{2,3,}": 5, "a{2,3x": 5, "a{2,-1}": 4, "a{2)": 3,
		"[]": 1, "[]a]": 1, "[^]": 2, "[^]a]": 2, "[-a]": 1, "[^-a]": 2, "[^^]": 2, "[a^]": 2, "[a-]": 3, "[a-^]": 3, "[a--]": 3, "[a-b-c]": 4, "[a-b^": 4,
		"\\q": 1, "\\ ": 1, "\\N": 1, "\\x4": 3, "\\xg": 2, "\\xA0": 2, "\\x4F": 3, "\\X41": 1, "[\\q]": 2, "[a-\\q]": 4, "[\\xg]": 3, "[\\x4]": 4, "a\\\n": 2,
		// Over too early.
		"(": 1, "(a": 2, "((a)": 4, "(a|": 3, "(a*": 3, "\\": 1, "\\x": 2, "ab\\": 3, "(a\\": 3,
		"a{": 2, "a{2": 3, "a{2,": 4, "a{2,3": 5, "a{3,2": 5, "(a{2": 4,
		"[": 1, "[^": 2, "[a": 2, "[a-": 3, "[a-b": 4, "[\\": 2, "[\\x": 3, "[\\x4": 4, "[a-\\": 4, "[b-\\x0": 6,
	} {
		fails(t, text, at, api.ErrSyntax)
	}
}

// P2.1: faults of what is read, each told at its place, and as soon as it is read.
func TestWrongOrder(t *testing.T) {
	for text, at := range map[string]int{
		// n above m: the place of the {, when it is read whole.
		"a{2,1}": 1, "a{2,1}*)": 1, "ab(c{10,9})": 4, "a{1,2}{3,2}": 6, "a{2147483647,0}": 1, "a{2,1x": 5, "a{2,1": 5,
		"a{2,1}{": 1, "a{010,9}": 1, "*a{2,1}": 0, "a{2,1}[b-a]": 1, "(a{2,1}": 2,
		// The first item above the second one: the place of the -, behind both.
		"[b-a]": 2, "[b-a": 2, "[b-a-": 2, "[b-a^": 2, "x[^b-a]": 4, "[a-bd-c]": 5, "[\\x62-a]": 5, "[b-\\x61": 2, "[b-\\x6": 6, "[b-\\x6g]": 6, "[b-\\q]": 4,
		"[a-\\t]": 2, "[\\^-\\\\": 3, "[a-\\-]": 2, "[b-]a]": 3, "[b-a]{2,1}": 2, "[b-a]*)": 2, ")[b-a]": 0,
	} {
		fails(t, text, at, api.ErrSyntax)
	}
	for text, at := range map[string]int{
		// A number above MaxBound: the place of its first digit, when its digits are read.
		"a{2147483648}": 2, "a{2147483648,}": 2, "a{2147483648,1}": 2, "a{1,2147483648}": 4, "a{9,2147483648}": 4, "a{1,2147483648": 4, "a{1,2147483648x": 4,
		"a{2147483648": 2, "a{2147483648x}": 2, "a{2147483648)": 2, "a{0002147483648}": 2, "a{99999999999999999999,9}": 2, "a{18446744073709551617}": 2, "a{3000000000,2}": 2,
		"ab{2147483648}": 3, "(a{2147483648})": 3, "a{2}{2147483648": 5, "a{2147483648}[b-a]": 2, "a{2147483648}{2,1})": 2,
	} {
		fails(t, text, at, api.ErrLimit)
	}
	fails(t, "a{"+strings.Repeat("9", 397)+"}", 2, api.ErrLimit)
	fails(t, "a{"+strings.Repeat("0", 397)+"2", 2+398, api.ErrSyntax)
	fails(t, "[b-a]a{2147483648}", 2, api.ErrSyntax)
	fails(t, "a{2,1}a{2147483648}", 1, api.ErrSyntax)
	fails(t, "a)a{2147483648}", 1, api.ErrSyntax)
	fails(t, "{2147483648}", 0, api.ErrSyntax)
	reads(t, "a{"+strings.Repeat("0", 396)+"2}", times(one("a"), 2, 2))
}

// P2.1: texts that are too long, trees that are too deep or have too many places, and what is told first.
func TestLimits(t *testing.T) {
	many := strings.Repeat
	// As long as may be, and one byte more: what else is wrong isn't told then.
	fails(t, many("(", 400), 400, api.ErrSyntax)
	fails(t, many("(", 401), 0, api.ErrLimit)
	reads(t, many("(", 200)+many(")", 200), api.Node{})
	fails(t, many("(", 200)+many(")", 201), 0, api.ErrLimit)
	fails(t, "*"+many("a", 399), 0, api.ErrSyntax)
	fails(t, "a)"+many("a", 399), 0, api.ErrLimit)
	fails(t, many("a", 400)+")", 0, api.ErrLimit)

	// Depth 20 and 21: of what is repeated, and of rows in rows.
	deep := one("a")
	for range 19 {
		deep = times(deep, 1, -1)
	}
	reads(t, "a"+many("+", 19), deep)
	fails(t, "a"+many("+", 20), 0, api.ErrLimit)
	fails(t, "a"+many("+", 20)+")", 21, api.ErrSyntax)
	fails(t, "("+many("+", 20), 1, api.ErrSyntax)
	fails(t, "a"+many("+", 20)+"{2147483648}", 22, api.ErrLimit)
	fails(t, "a"+many("+", 20)+"{2,1}", 21, api.ErrSyntax)
	fails(t, "a"+many("+", 399), 0, api.ErrLimit)
	for depth, e := range map[int]api.Errno{20: api.OK, 21: api.ErrLimit} {
		n, at, got := Parse(many("a(", depth-1) + "b" + many(")", depth-1))
		if got != e || at != 0 || e == api.OK && Depth(n) != depth || e != api.OK && !alike(n, api.Node{}) {
			t.Error(depth, n, at, got)
		}
	}

	// 40 and 41 places.
	l := slices.Repeat([]api.Node{one("a")}, 40)
	reads(t, many("a", 40), row(l...))
	fails(t, many("a", 41), 0, api.ErrLimit)
	fails(t, many("a", 41)+"(", 42, api.ErrSyntax)
	fails(t, many("a", 400), 0, api.ErrLimit)
	fails(t, many("[ab]|", 41), 0, api.ErrLimit)
	reads(t, many("a|", 39)+"a", either(l...))
	reads(t, many("a", 40)+"()", row(append(l, api.Node{})...))
	reads(t, "("+many("a", 40)+"){1000}", times(row(l...), 1000, 1000))
	fails(t, many("|", 400)+"(", 0, api.ErrLimit)
	reads(t, many("|", 400), either(make([]api.Node, 401)...))
}

// bracketed writes a tree with brackets around each part.
func bracketed(n api.Node) string {
	var parts []string
	for _, p := range n.Parts {
		parts = append(parts, "("+bracketed(p)+")")
	}
	switch n.Kind {
	case 1:
		text := "["
		for i := range 256 {
			if n.Set[i/64]>>(i%64)&1 == 1 {
				text += "\\x" + strconv.FormatInt(int64(256+i), 16)[1:]
			}
		}
		return text + "]"
	case 2:
		return strings.Join(parts, "")
	case 3:
		return strings.Join(parts, "|")
	case 4:
		upper := strconv.FormatInt(n.Hi, 10)
		if n.Hi == -1 {
			upper = ""
		}
		return parts[0] + "{" + strconv.FormatInt(n.Lo, 10) + "," + upper + "}"
	}
	return ""
}

// grown are all trees made of one or two of some as parts, and of none more.
func grown(of []api.Node) []api.Node {
	var l []api.Node
	for _, a := range of {
		for _, b := range [][2]int64{{0, -1}, {1, -1}, {0, 1}, {0, 0}, {2, 3}, {7, api.MaxBound}, {api.MaxBound, -1}} {
			l = append(l, times(a, b[0], b[1]))
		}
		for _, b := range of {
			l = append(l, row(a, b), either(a, b), row(b, a, b), either(a, b, a))
		}
	}
	return l
}

// P2.1: each of some thousand trees is read as what it was written of.
func TestWrittenTrees(t *testing.T) {
	small := grown([]api.Node{{}, one("a"), one("b-]\x00\xff")})
	for _, n := range append(grown(small), small...) {
		reads(t, bracketed(n), n)
	}
}

// LANGUAGE's rule 7, and R5: what is answered is new memory, and no two lists of it share any.
func TestNewMemory(t *testing.T) {
	const text = "a(b(cd)e|f(gh)|(ij){2}k*)(lmn|o)|(a(bc)|d)e|[f-h]i{3,4}()"
	want, _, e := Parse(text)
	n, _, _ := Parse(text)
	if e != api.OK {
		t.Fatal(e)
	}
	var spoil func(list []api.Node)
	spoil = func(list []api.Node) {
		for _, m := range list {
			spoil(m.Parts)
		}
		spare := list[len(list):cap(list)]
		for i := range spare {
			spare[i] = times(one("spoilt"), 7, 8)
		}
	}
	spoil(n.Parts)
	if !alike(n, want) {
		t.Error("two lists share their room")
	}
	n.Parts[0] = one("spoilt")
	if m, _, _ := Parse(text); !alike(m, want) {
		t.Error("two answers share memory")
	}
}
