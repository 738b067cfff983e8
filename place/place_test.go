package place

import (
	"math"
	"reflect"
	"strconv"
	"strings"
	"testing"

	"ostinato/api"
	"ostinato/class"
	"ostinato/core"
	"ostinato/show"
	"ostinato/syntax"
)

// one is a node of Kind 1, of the bytes of a text.
func one(text string) api.Node {
	return api.Node{Kind: 1, Set: class.Of([]byte(text)...)}
}

func cats(parts ...api.Node) api.Node {
	return api.Node{Kind: 2, Parts: parts}
}

func alts(parts ...api.Node) api.Node {
	return api.Node{Kind: 3, Parts: parts}
}

func repeat(n api.Node, lo, hi int64) api.Node {
	return api.Node{Kind: 4, Parts: []api.Node{n}, Lo: lo, Hi: hi}
}

// read is the tree of a text, in which a ~ stands for a class of no byte.
func read(t *testing.T, text string) api.Node {
	t.Helper()
	n, at, e := syntax.Parse(strings.ReplaceAll(text, "~", `[^\x00-\xff]`))
	if e != api.OK {
		t.Fatal(text, at, e)
	}
	return n
}

// of is a text's map.
func of(t *testing.T, text string) Map {
	t.Helper()
	m, e := Of(read(t, text))
	if e != api.OK {
		t.Fatalf("%q: %d", text, e)
	}
	return m
}

// scopesTold are scopes as a text: of each Low and High.
func scopesTold(m Map) string {
	var l []string
	for _, s := range m.Scopes {
		l = append(l, strconv.FormatInt(s.Low, 10)+","+strconv.FormatInt(s.High, 10))
	}
	return strings.Join(l, " ")
}

// placesTold are positions as a text: of each its Set, and behind it the scopes around it.
func placesTold(m Map) string {
	var l []string
	for at := 1; at < len(m.Sets); at++ {
		var around []string
		for _, s := range m.Around[at] {
			around = append(around, strconv.Itoa(s))
		}
		l = append(l, show.Text(api.Node{Kind: 1, Set: m.Sets[at]})+strings.Join(around, ","))
	}
	return strings.Join(l, " ")
}

// P5.1: maps of trees of each kind, simple and not: the simple tree, its positions, its scopes.
func TestOf(t *testing.T) {
	for _, c := range [][4]string{
		// Without a scope: of each kind.
		{"", "", "", ""}, {"()", "", "", ""}, {"~", "~", "", ""},
		{"a", "a", "a", ""}, {".", ".", ".", ""}, {"[c-ea]", "[ac-e]", "[ac-e]", ""}, {"[^a]", "[^a]", "[\\x00-`b-\\xff]", ""},
		{"ab", "ab", "a b", ""}, {"aa", "aa", "a a", ""}, {"bac", "bac", "b a c", ""},
		{"a|b", "a|b", "a b", ""}, {"b|a|", "b|a|", "b a", ""}, {"|c|a", "|c|a", "c a", ""},
		{"ab|cd|e", "ab|cd|e", "a b c d e", ""}, {"a(b|c)d", "a(b|c)d", "a b c d", ""},
		// Repeated, and not counted.
		{"a*", "a*", "a", ""}, {"a+", "a+", "a", ""}, {"a?", "a?", "a", ""}, {"a{0,1}", "a?", "a", ""}, {"a{1,}", "a+", "a", ""}, {"a{0,}", "a*", "a", ""}, {"a{1,1}", "a", "a", ""}, {"a{1}", "a", "a", ""}, {"a{0}", "", "", ""}, {"a{0,0}b", "b", "b", ""},
		{"(a*b?)+", "(a*b?)*", "a b", ""}, {"(ab+|c?)*d", "(ab+|c?)*d", "a b c d", ""}, {"a***", "a***", "a", ""},
		// Repeated, and counted: Low is never below 1.
		{"a{2}", "a{2}", "a0", "2,2"}, {"a{0,2}", "a{0,2}", "a0", "1,2"}, {"a{1,2}", "a{1,2}", "a0", "1,2"}, {"a{2,3}", "a{2,3}", "a0", "2,3"}, {"a{2,}", "a{2,}", "a0", "2,-1"}, {"a{3,}", "a{3,}", "a0", "3,-1"}, {"a{0,7}", "a{0,7}", "a0", "1,7"},
		{"a{2147483647}", "a{2147483647}", "a0", "2147483647,2147483647"}, {"a{2147483647,}", "a{2147483647,}", "a0", "2147483647,-1"}, {"a{0,2147483647}", "a{0,2147483647}", "a0", "1,2147483647"},
		{"(ab){2}", "(ab){2}", "a0 b0", "2,2"}, {"(a|b|){2}", "(a|b|){0,2}", "a0 b0", "1,2"}, {"[ab]{2}", "[ab]{2}", "[ab]0", "2,2"},
		// Side by side, with others between.
		{"a{2}b{3}c{4}", "a{2}b{3}c{4}", "a0 b1 c2", "2,2 3,3 4,4"}, {"a{2}bc{3}", "a{2}bc{3}", "a0 b c1", "2,2 3,3"}, {"a{2}|b{3,}|c*", "a{2}|b{3,}|c*", "a0 b1 c", "2,2 3,-1"}, {"a{2}a{2}", "a{2}a{2}", "a0 a1", "2,2 2,2"},
		// In each other.
		{"(a{2,3}b){4,}", "(a{2,3}b){4,}", "a0,1 b0", "4,-1 2,3"}, {"(ba{2,3}){4,}", "(ba{2,3}){4,}", "b0 a0,1", "4,-1 2,3"}, {"a{2}{3}", "a{2}{3}", "a0,1", "3,3 2,2"}, {"a{2}{3}{4}{5}", "a{2}{3}{4}{5}", "a0,1,2,3", "5,5 4,4 3,3 2,2"},
		{"(a{2}b{3}){4}c{5}", "(a{2}b{3}){4}c{5}", "a0,1 b0,2 c3", "4,4 2,2 3,3 5,5"},
		{"(a{2}(b{3}c){4}d){5}(e{6}|f){7}g", "(a{2}(b{3}c){4}d){5}(e{6}|f){7}g", "a0,1 b0,2,3 c0,2 d0 e4,5 f4 g", "5,5 2,2 4,4 3,3 7,7 6,6"},
		{"((a{2}b){3}c{4}|d{5}){6}", "((a{2}b){3}c{4}|d{5}){6}", "a0,1,2 b0,1 c0,3 d0,4", "6,6 3,3 2,2 4,4 5,5"},
		{"(a|b{2}){3}(c{4}|d){5}", "(a|b{2}){3}(c{4}|d){5}", "a0 b0,1 c2,3 d2", "3,3 2,2 5,5 4,4"},
		// With what isn't counted between.
		{"(a{2}b)*", "(a{2}b)*", "a0 b", "2,2"}, {"(a{2})*{3}", "a{2}*{0,3}", "a0,1", "1,3 2,2"}, {"((a+b?)*c){2,}", "((a+b?)*c){2,}", "a0 b0 c0", "2,-1"}, {"(a?|(b+c{9})*){2}d", "(a?|(b+c{9})*){0,2}d", "a0 b0 c0,1 d", "1,2 9,9"},
		// Not simple: what is left out, joined, and made nullable.
		{"(a?){2,3}", "a?{0,3}", "a0", "1,3"}, {"(a?){3,}", "a?*", "a", ""}, {"a*{2}", "a*{0,2}", "a0", "1,2"},
		{"(a(bc)){2}", "(abc){2}", "a0 b0 c0", "2,2"}, {"a{2}(b{3}(c{4}))", "a{2}b{3}c{4}", "a0 b1 c2", "2,2 3,3 4,4"}, {"a|(b|(c|a))", "a|b|c", "a b c", ""},
		{"a{2}|b|a{2}", "a{2}|b", "a0 b", "2,2"}, {"a{2}|a{2,3}|a{2}|a{2,}", "a{2}|a{2,3}|a{2,}", "a0 a1 a2", "2,2 2,3 2,-1"},
		{"a{2}{1}{3}", "a{2}{3}", "a0,1", "3,3 2,2"}, {"(a{2}b){0}c{3}", "c{3}", "c0", "3,3"}, {"(){5}a", "a", "a", ""},
		{"~a{2}", "~", "", ""}, {"~{2,3}", "~", "", ""}, {"~{0,3}", "", "", ""}, {"~{2}|a{3}", "a{3}", "a0", "3,3"}, {"(~|a{2}){3}", "a{2}{3}", "a0,1", "3,3 2,2"}, {"a~?b{2}", "ab{2}", "a b0", "2,2"}, {"a{2}~*b", "a{2}b", "a0 b", "2,2"}, {"(a|~)b", "ab", "a b", ""},
	} {
		m := of(t, c[0])
		if !syntax.Same(m.Tree, read(t, c[1])) || placesTold(m) != c[2] || scopesTold(m) != c[3] {
			t.Errorf("%q: %q %q %q, not %q", c[0], show.Text(m.Tree), placesTold(m), scopesTold(m), c[1:])
		}
		if len(m.Sets) == 0 || len(m.Around) != len(m.Sets) || !class.Empty(m.Sets[0]) || len(m.Around[0]) != 0 {
			t.Errorf("%q: %v %v: the lists begin with one of no position", c[0], m.Sets, m.Around)
		}
	}
}

// refused fails, if a tree isn't told to be wrong so, or if beside the error there is something.
func refused(t *testing.T, name string, n api.Node, want api.Errno) {
	t.Helper()
	if m, e := Of(n); e != want || !reflect.DeepEqual(m, Map{}) {
		t.Errorf("%s: %d %v, not %d", name, e, m, want)
	}
}

// rows is a CAT of so many nodes.
func rows(n api.Node, times int) api.Node {
	var l []api.Node
	for range times {
		l = append(l, n)
	}
	return cats(l...)
}

// nested repeats a tree twice, twice .., so many times.
func nested(n api.Node, times int) api.Node {
	for range times {
		n = repeat(n, 2, 2)
	}
	return n
}

// P5.1: trees that aren't formed, wherever the fault is; that is asked first.
func TestUnformed(t *testing.T) {
	a := one("a")
	for _, n := range []api.Node{
		{Lo: 1}, {Hi: -1}, {Set: api.Class{1}}, {Parts: []api.Node{a, a}},
		{Kind: 1, Lo: 1}, {Kind: 1, Parts: []api.Node{a}}, {Kind: 2}, {Kind: 2, Parts: []api.Node{a}}, {Kind: 3}, {Kind: 3, Parts: []api.Node{a}}, {Kind: 2, Parts: []api.Node{a, a}, Hi: 2},
		{Kind: 4}, {Kind: 4, Hi: -1, Parts: []api.Node{a, a}}, {Kind: 5}, {Kind: -1}, {Kind: math.MinInt},
		repeat(a, 3, 2), repeat(a, -1, 2), repeat(a, 0, -2), repeat(a, 2, api.MaxBound+1), repeat(a, api.MaxBound+1, -1), repeat(a, math.MaxInt64, math.MaxInt64), repeat(a, math.MinInt64, -1),
	} {
		for _, m := range []api.Node{
			n, cats(a, n), cats(n, a), alts(n, a), repeat(n, 2, 3), repeat(n, 0, 0), alts(a, repeat(cats(a, n), 1, -1)), cats(api.Node{Kind: 1}, n),
			cats(rows(a, 50), n), cats(n, rows(a, 50)), nested(n, 6), cats(nested(a, 6), n),
		} {
			refused(t, "not formed", m, api.ErrArg)
		}
	}
}

// P5.1: as many positions as may be, and one more, whatever of the tree is left when it is simple.
func TestPositions(t *testing.T) {
	a, b, void := one("a"), one("b"), api.Node{Kind: 1}
	for _, p := range []api.Node{a, repeat(a, 0, -1), repeat(a, 2, 3), one("ab")} {
		m, e := Of(rows(p, api.MaxPlaces))
		if e != api.OK || len(m.Sets) != api.MaxPlaces+1 || len(m.Around) != api.MaxPlaces+1 {
			t.Error(e, len(m.Sets), len(m.Around))
		}
		refused(t, "one more", rows(p, api.MaxPlaces+1), api.ErrLimit)
		refused(t, "one more, in a CAT", cats(b, rows(p, api.MaxPlaces)), api.ErrLimit)
		refused(t, "one more, behind", cats(rows(p, api.MaxPlaces), b), api.ErrLimit)
		refused(t, "one more, in scopes", repeat(cats(nested(rows(p, 20), 2), b, nested(rows(p, 20), 1)), 0, -1), api.ErrLimit)
	}
	refused(t, "many", rows(a, 100000), api.ErrLimit)
	most := rows(a, api.MaxPlaces)
	for name, n := range map[string]api.Node{
		"void":          alts(most, cats(a, void)),
		"the same":      alts(most, most),
		"none of times": cats(most, repeat(most, 0, 0)),
		"void, none":    cats(repeat(void, 0, 5), most, repeat(void, 0, -1)),
		"nothing":       cats(most, api.Node{}, repeat(api.Node{}, 2, 3)),
	} {
		if m, e := Of(n); e != api.OK || len(m.Sets) != api.MaxPlaces+1 || len(m.Scopes) != 0 {
			t.Error(name, e, len(m.Sets), m.Scopes)
		}
	}
	if m, e := Of(cats(rows(a, 100), void)); e != api.OK || len(m.Sets) != 1 {
		t.Error("a void tree has no position", e, m)
	}
}

// P5.1: as many scopes around a position as may be, and one more; side by side there may be more.
func TestScopes(t *testing.T) {
	a, b := one("a"), one("b")
	m, e := Of(nested(a, api.MaxScopes))
	if e != api.OK || !reflect.DeepEqual(m.Around[1], []int{0, 1, 2, 3}) || len(m.Scopes) != api.MaxScopes {
		t.Error(e, m)
	}
	five := nested(a, api.MaxScopes+1)
	for name, n := range map[string]api.Node{
		"one more": five, "in a row": cats(a, five, a), "in an alt": alts(b, five), "behind others": cats(nested(b, 4), five), "ahead of others": cats(five, nested(b, 4)),
		"around some": nested(cats(b, nested(a, 2)), 3), "around some, last": nested(cats(nested(a, 2), b), 3), "with others between": repeat(nested(repeat(nested(a, 2), 0, -1), 2), 0, 9), "endless ones": repeat(repeat(nested(a, 3), 2, -1), 3, -1), "made nullable": repeat(repeat(repeat(nested(a, 3), 0, 1), 2, 2), 0, 2),
	} {
		refused(t, name, n, api.ErrLimit)
	}
	for name, n := range map[string]api.Node{
		"in {1}": repeat(repeat(nested(a, 4), 1, 1), 1, 1), "in *": repeat(nested(a, 4), 0, -1), "in +": repeat(nested(a, 4), 1, -1), "in ?": repeat(nested(a, 4), 0, 1), "of *": nested(repeat(a, 0, -1), 4),
		"of {1}": nested(repeat(a, 1, 1), 4), "made * of {2,}": repeat(repeat(nested(a, 4), 0, 1), 2, -1), "one of nothing": cats(nested(a, 4), nested(api.Node{}, 5)), "one left out": alts(nested(a, 4), nested(api.Node{Kind: 1}, 7)), "none of times": cats(nested(a, 4), repeat(nested(a, 6), 0, 0)),
	} {
		m, e := Of(n)
		if e != api.OK || len(m.Scopes) != 4 || !reflect.DeepEqual(m.Around[1], []int{0, 1, 2, 3}) {
			t.Error(name, e, m)
		}
	}
	m, e = Of(rows(nested(a, api.MaxScopes), api.MaxPlaces))
	if e != api.OK || len(m.Scopes) != api.MaxScopes*api.MaxPlaces || !reflect.DeepEqual(m.Around[40], []int{156, 157, 158, 159}) {
		t.Error("side by side", e, m)
	}
	refused(t, "both too many", rows(five, api.MaxPlaces+1), api.ErrLimit)
}

// P5.1: Counts, of nodes that count, and that don't; of what isn't repeated, or isn't formed, nothing.
func TestCounts(t *testing.T) {
	const most = api.MaxBound
	a := one("a")
	for _, c := range []struct {
		lo, hi int64
		want   Scope
		counts bool
	}{
		{0, -1, Scope{1, -1}, false}, {1, -1, Scope{1, -1}, false}, {0, 1, Scope{1, 1}, false}, {1, 1, Scope{1, 1}, false}, {0, 0, Scope{1, 0}, false},
		{0, 2, Scope{1, 2}, true}, {1, 2, Scope{1, 2}, true}, {2, 2, Scope{2, 2}, true}, {2, 3, Scope{2, 3}, true}, {2, -1, Scope{2, -1}, true}, {3, -1, Scope{3, -1}, true}, {0, 9, Scope{1, 9}, true},
		{most, most, Scope{most, most}, true}, {most, -1, Scope{most, -1}, true}, {0, most, Scope{1, most}, true}, {1, most, Scope{1, most}, true}, {most - 1, most, Scope{most - 1, most}, true},
	} {
		for _, p := range []api.Node{a, {}, {Kind: 1}, cats(a, a), alts(a, api.Node{}), repeat(a, 0, 1), repeat(a, 2, 2), nested(a, 9)} {
			if s, counts := Counts(repeat(p, c.lo, c.hi)); s != c.want || counts != c.counts {
				t.Error(c.lo, c.hi, p, s, counts)
			}
		}
	}
	wrong := api.Node{Kind: 7}
	for _, n := range []api.Node{
		{}, a, {Kind: 1}, cats(a, a), alts(a, a), cats(repeat(a, 2, 2), repeat(a, 2, 2)), alts(repeat(a, 2, 2), a),
		{Lo: 2, Hi: 3}, {Kind: 1, Lo: 2, Hi: 3}, {Kind: 2, Parts: []api.Node{a, a}, Lo: 2, Hi: 3}, {Kind: 5, Parts: []api.Node{a}, Lo: 2, Hi: 3}, {Kind: -4, Parts: []api.Node{a}, Lo: 2, Hi: 3},
		{Kind: 4, Lo: 2, Hi: 3}, {Kind: 4, Lo: 2, Hi: 3, Parts: []api.Node{a, a}}, {Kind: 4, Lo: 2, Hi: 3, Parts: []api.Node{a}, Set: api.Class{1}},
		repeat(a, 3, 2), repeat(a, -1, 2), repeat(a, -1, -1), repeat(a, 2, -2), repeat(a, 2, most+1), repeat(a, most+1, -1), repeat(a, math.MaxInt64, math.MaxInt64), repeat(a, math.MinInt64, math.MaxInt64),
		repeat(wrong, 2, 3), repeat(cats(a, wrong), 2, 3), repeat(repeat(a, 3, 2), 2, 3), wrong,
	} {
		if s, counts := Counts(n); s != (Scope{}) || counts {
			t.Error(n, s, counts)
		}
	}
}

// P5.2: Next and Done, at counts below, at and above Low and High.
func TestNextDone(t *testing.T) {
	const least, most, bound = math.MinInt64, math.MaxInt64, api.MaxBound
	for _, c := range []struct {
		s           Scope
		count, next int64
		has, done   bool
	}{
		// With a High.
		{Scope{2, 4}, 1, 2, true, false}, {Scope{2, 4}, 2, 3, true, true}, {Scope{2, 4}, 3, 4, true, true}, {Scope{2, 4}, 4, 0, false, true}, {Scope{2, 4}, 5, 0, false, true}, {Scope{2, 4}, 9, 0, false, true}, {Scope{2, 4}, most, 0, false, true},
		{Scope{3, 3}, 1, 2, true, false}, {Scope{3, 3}, 2, 3, true, false}, {Scope{3, 3}, 3, 0, false, true}, {Scope{3, 3}, 4, 0, false, true},
		{Scope{1, 2}, 1, 2, true, true}, {Scope{1, 2}, 2, 0, false, true}, {Scope{1, 2}, 3, 0, false, true}, {Scope{1, 2}, 0, 1, true, false}, {Scope{1, 2}, -1, 0, true, false}, {Scope{1, 2}, -7, -6, true, false}, {Scope{1, 2}, least, least + 1, true, false},
		{Scope{bound, bound}, bound - 1, bound, true, false}, {Scope{bound, bound}, bound, 0, false, true}, {Scope{bound, bound}, bound + 1, 0, false, true}, {Scope{1, bound}, bound - 2, bound - 1, true, true},
		// With High -1.
		{Scope{2, -1}, 0, 1, true, false}, {Scope{2, -1}, 1, 2, true, false}, {Scope{2, -1}, 2, 2, true, true}, {Scope{2, -1}, 3, 2, true, true}, {Scope{2, -1}, most, 2, true, true}, {Scope{2, -1}, least, least + 1, true, false}, {Scope{2, -1}, -2, -1, true, false},
		{Scope{5, -1}, 3, 4, true, false}, {Scope{5, -1}, 4, 5, true, false}, {Scope{5, -1}, 5, 5, true, true}, {Scope{5, -1}, 6, 5, true, true},
		{Scope{bound, -1}, 1, 2, true, false}, {Scope{bound, -1}, bound - 1, bound, true, false}, {Scope{bound, -1}, bound, bound, true, true}, {Scope{bound, -1}, bound + 1, bound, true, true},
		// Of no use: scopes and counts that are none.
		{Scope{2, -1}, -1, 0, false, false}, {Scope{1, 1}, 1, 0, false, true}, {Scope{1, 1}, 0, 1, true, false}, {Scope{1, 0}, 0, 0, false, false}, {Scope{1, 0}, 1, 0, false, true}, {Scope{1, 0}, -1, 0, true, false}, {Scope{}, 0, 0, false, true}, {Scope{}, 1, 0, false, true}, {Scope{}, -1, 0, true, false},
		{Scope{4, 2}, 1, 2, true, false}, {Scope{4, 2}, 2, 0, false, false}, {Scope{4, 2}, 3, 0, false, false}, {Scope{4, 2}, 4, 0, false, true}, {Scope{1, -2}, -2, 0, false, false}, {Scope{1, -2}, 1, 0, false, true}, {Scope{1, -2}, -3, -2, true, false},
		{Scope{most, -1}, most, most, true, true}, {Scope{most, most}, most, 0, false, true}, {Scope{most, -1}, most - 1, most, true, false}, {Scope{least, -1}, 0, least, true, true}, {Scope{least, -1}, most, least, true, true}, {Scope{least, least}, least, 0, false, true}, {Scope{1, most}, most - 1, most, true, true},
	} {
		if next, has := Next(c.s, c.count); next != c.next || has != c.has || Done(c.s, c.count) != c.done {
			t.Error(c.s, c.count, next, has, Done(c.s, c.count))
		}
	}
}

// P5.2: from 1 on, each count of a scope comes, and it may be left just from Low on.
func TestCountsCome(t *testing.T) {
	for low := int64(1); low < 9; low++ {
		for high := low; high < 12; high++ {
			s, count := Scope{low, high}, int64(1)
			for want := int64(1); want <= high; want++ {
				next, has := Next(s, count)
				if count != want || has != (want < high) || Done(s, count) != (want >= low) {
					t.Fatal(s, count, want)
				}
				count = next
			}
		}
		s, count := Scope{low, -1}, int64(1)
		for want := int64(1); want < 30; want++ {
			next, has := Next(s, count)
			if count != min(want, low) || !has || Done(s, count) != (want >= low) {
				t.Fatal(s, count, want)
			}
			count = next
		}
	}
}

// P5.1: of each of some trees, the map's tree is layer 4's.
func TestTree(t *testing.T) {
	for _, text := range []string{"", "~", "a", "a?{3,5}", "(ab)(c(d|(e|d)))", "a{0}b{2}", "(a|~)(b|)", "(a?|b*){2,9}c{1}"} {
		want, _ := core.Simple(read(t, text))
		if m := of(t, text); !syntax.Same(m.Tree, want) {
			t.Errorf("%q: %q", text, show.Text(m.Tree))
		}
	}
}
