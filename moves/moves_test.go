package moves

import (
	"math"
	"reflect"
	"slices"
	"strconv"
	"strings"
	"testing"

	"ostinato/api"
	"ostinato/class"
	"ostinato/place"
	"ostinato/show"
	"ostinato/syntax"
)

// one is a node of Kind 1, of the bytes of a text.
func one(text string) api.Node {
	return api.Node{Kind: 1, Set: class.Of([]byte(text)...)}
}

func cats(parts ...api.Node) api.Node {
	return api.Node{Kind: 2, Parts: parts}
}

func alts(parts ...api.Node) api.Node {
	return api.Node{Kind: 3, Parts: parts}
}

func repeat(n api.Node, lo, hi int64) api.Node {
	return api.Node{Kind: 4, Parts: []api.Node{n}, Lo: lo, Hi: hi}
}

// nested repeats a tree twice, twice .., so many times.
func nested(n api.Node, times int) api.Node {
	for range times {
		n = repeat(n, 2, 2)
	}
	return n
}

// read is the tree of a text, in which a ~ stands for a class of no byte.
func read(t *testing.T, text string) api.Node {
	t.Helper()
	n, at, e := syntax.Parse(strings.ReplaceAll(text, "~", `[^\x00-\xff]`))
	if e != api.OK {
		t.Fatal(text, at, e)
	}
	return n
}

// made is a text's automaton.
func made(t *testing.T, text string) Auto {
	t.Helper()
	a, e := Make(read(t, text))
	if e != api.OK {
		t.Fatalf("%q: %d", text, e)
	}
	return a
}

// numbers are positions as a text.
func numbers(l []int) string {
	var s []string
	for _, at := range l {
		s = append(s, strconv.Itoa(at))
	}
	return strings.Join(s, " ")
}

// movesTold are all moves as a text, position by position, in their order: To and Keep, and a ! behind those that are Again.
func movesTold(a Auto) string {
	var l []string
	for at := 1; at < len(a.Moves); at++ {
		var s []string
		for _, m := range a.Moves[at] {
			again := ""
			if m.Again {
				again = "!"
			}
			s = append(s, strconv.Itoa(m.To)+","+strconv.Itoa(m.Keep)+again)
		}
		l = append(l, strings.Join(s, " "))
	}
	return strings.Join(l, "; ")
}

// endsTold are the positions with which a tree ends, and a 0 behind them, if it is nullable.
func endsTold(a Auto) string {
	var l []int
	for at, last := range a.Last {
		if last {
			l = append(l, at)
		}
	}
	if a.Empty {
		l = append(l, 0)
	}
	return numbers(l)
}

// P6.1: what automata of trees of each kind begin with, their moves, what they end with, and whether they are nullable (0).
func TestMake(t *testing.T) {
	for _, c := range [][4]string{
		// Of each kind, without a move.
		{"", "", "", "0"}, {"()", "", "", "0"}, {"~", "", "", ""}, {"a", "1", "", "1"}, {".", "1", "", "1"}, {"[^a-z]", "1", "", "1"}, {"\\x00", "1", "", "1"},
		{"a|b", "1 2", "; ", "1 2"}, {"a|", "1", "", "1 0"}, {"|b|a|", "1 2", "; ", "1 2 0"}, {"a?", "1", "", "1 0"}, {"a{0,1}", "1", "", "1 0"}, {"a{1}", "1", "", "1"}, {"(a|b)?", "1 2", "; ", "1 2 0"}, {"a??", "1", "", "1 0"},
		// CATs.
		{"ab", "1", "2,0; ", "2"}, {"aa", "1", "2,0; ", "2"}, {"abc", "1", "2,0; 3,0; ", "3"}, {"a(b|c)d", "1", "2,0 3,0; 4,0; 4,0; ", "4"}, {"(a|b)(c|d)", "1 2", "3,0 4,0; 3,0 4,0; ; ", "3 4"}, {"ab|cd|e", "1 3 5", "2,0; ; 4,0; ; ", "2 4 5"},
		// CATs with nullable parts: ahead, between, behind, all.
		{"a?b", "1 2", "2,0; ", "2"}, {"ab?", "1", "2,0; ", "1 2"}, {"a?b?", "1 2", "2,0; ", "1 2 0"}, {"ab?c", "1", "2,0 3,0; 3,0; ", "3"}, {"a?b?c", "1 2 3", "2,0 3,0; 3,0; ", "3"}, {"ab?c?d", "1", "2,0 3,0 4,0; 3,0 4,0; 4,0; ", "4"}, {"ab?cd?e", "1", "2,0 3,0; 3,0; 4,0 5,0; 5,0; ", "5"},
		{"a(b|)c", "1", "2,0 3,0; 3,0; ", "3"}, {"a(b?|c)d?", "1", "2,0 3,0 4,0; 4,0; 4,0; ", "1 2 3 4"}, {"a(b?c?)d", "1", "2,0 3,0 4,0; 3,0 4,0; 4,0; ", "4"}, {"a(b?c)?d", "1", "2,0 3,0 4,0; 3,0; 4,0; ", "4"}, {"(ab?|c?d)(e?f?|g)h?", "1 3 4", "2,0 5,0 6,0 7,0 8,0; 5,0 6,0 7,0 8,0; 4,0; 5,0 6,0 7,0 8,0; 6,0 8,0; 8,0; 8,0; ", "1 2 4 5 6 7 8"},
		{"ab{0,2}c", "1", "2,0 3,0; 2,0! 3,0; ", "3"}, {"ab*c", "1", "2,0 3,0; 2,0 3,0; ", "3"}, {"ab+c", "1", "2,0; 2,0 3,0; ", "3"},
		// Repeated, and not counted: with a move, but of Hi 1.
		{"a*", "1", "1,0", "1 0"}, {"a+", "1", "1,0", "1"}, {"a{0,}", "1", "1,0", "1 0"}, {"(ab)*", "1", "2,0; 1,0", "2 0"}, {"(ab)?", "1", "2,0; ", "2 0"}, {"(ab?)+", "1", "1,0 2,0; 1,0", "1 2"}, {"(a|bc)*d", "1 2 4", "1,0 2,0 4,0; 3,0; 1,0 2,0 4,0; ", "4"}, {"(a?b?)*", "1 2", "1,0 2,0; 1,0 2,0", "1 2 0"}, {"a*b*", "1 2", "1,0 2,0; 2,0", "1 2 0"},
		// Repeated, and counted: begun once more.
		{"a{2}", "1", "1,0!", "1"}, {"a{0,2}", "1", "1,0!", "1 0"}, {"a{2,}", "1", "1,0!", "1"}, {"a{1,2}", "1", "1,0!", "1"}, {"a{2147483647}", "1", "1,0!", "1"}, {"a{2147483647,}", "1", "1,0!", "1"}, {"(ab){2}", "1", "2,1; 1,0!", "2"}, {"(a|b|c){2,3}", "1 2 3", "1,0! 2,0! 3,0!; 1,0! 2,0! 3,0!; 1,0! 2,0! 3,0!", "1 2 3"}, {"(abc){3}", "1", "2,1; 3,1; 1,0!", "3"},
		{"a{2}b{3}", "1", "1,0! 2,0; 2,0!", "2"}, {"a{0,2}b{3}c", "1 2", "1,0! 2,0; 2,0! 3,0; ", "3"}, {"a{2}|b{3,}", "1 2", "1,0!; 2,0!", "1 2"}, {"(ab?c){2}d", "1", "2,1 3,1; 3,1; 1,0! 4,0; ", "4"},
		// Both: Again, and not, to the same position, and keeping as many.
		{"(ab?){2}", "1", "1,0! 2,1; 1,0!", "1 2"}, {"(a?b?){2}", "1 2", "1,0! 2,0! 2,1; 1,0! 2,0!", "1 2 0"}, {"a{2}*", "1", "1,0 1,0!", "1 0"}, {"a{2}+", "1", "1,0 1,0!", "1"}, {"(a{2}b?)*", "1", "1,0 1,0! 2,0; 1,0", "1 2 0"}, {"(a?b?){2}*", "1 2", "1,0 1,0! 2,0 2,0! 2,1; 1,0 1,0! 2,0 2,0!", "1 2 0"}, {"a*{2}", "1", "1,0! 1,1", "1 0"}, {"(a*b){2}", "1 2", "1,1 2,1; 1,0! 2,0!", "2"}, {"(a+b*){2}", "1", "1,0! 1,1 2,1; 1,0! 2,1", "1 2"},
		// Scopes in scopes.
		{"a{2}{3}", "1", "1,0! 1,1!", "1"}, {"a{2}{3}{4}{5}", "1", "1,0! 1,1! 1,2! 1,3!", "1"}, {"(a{2}b){3}", "1", "1,1! 2,1; 1,0!", "2"}, {"(a{2,3}b){4,}", "1", "1,1! 2,1; 1,0!", "2"}, {"(ba{2}){3}", "1", "2,1; 1,0! 2,1!", "2"}, {"(a{2}b{3}){4}c", "1", "1,1! 2,1; 1,0! 2,1! 3,0; ", "3"}, {"(a{2}|b){3}", "1 2", "1,0! 1,1! 2,0!; 1,0! 2,0!", "1 2"},
		{"((ab?){2,3}c?){4}", "1", "1,0! 1,1! 2,2 3,1; 1,0! 1,1! 3,1; 1,0!", "1 2 3"}, {"((ab){2}c){3}", "1", "2,2; 1,1! 3,1; 1,0!", "3"}, {"((a{2}b){3}c){4}", "1", "1,2! 2,2; 1,1! 3,1; 1,0!", "3"}, {"(a{2}*b){3}", "1 2", "1,1 1,1! 2,1; 1,0! 2,0!", "2"}, {"(a{2}b{3})*", "1", "1,0! 2,0; 1,0 2,0!", "2 0"}, {"(a{2}*){3}", "1", "1,0! 1,1 1,1!", "1 0"},
		// What is not counted around what is, and within.
		{"(a{2}b)*", "1", "1,0! 2,0; 1,0", "2 0"}, {"(a{2}b)?c", "1 3", "1,0! 2,0; 3,0; ", "3"}, {"((ab)*c){2}", "1 3", "2,1; 1,1 3,1; 1,0! 3,0!", "3"}, {"(a?){2}b", "1 2", "1,0! 2,0; ", "2"},
		// Each once, however often it comes.
		{"a**", "1", "1,0", "1 0"}, {"(a*b*)*", "1 2", "1,0 2,0; 1,0 2,0", "1 2 0"}, {"(a*)+*?", "1", "1,0", "1 0"}, {"(a?b?)*c*", "1 2 3", "1,0 2,0 3,0; 1,0 2,0 3,0; 3,0", "1 2 3 0"}, {"((a?b?)*{2})*", "1 2", "1,0 1,0! 1,1 2,0 2,0! 2,1; 1,0 1,0! 1,1 2,0 2,0! 2,1", "1 2 0"},
		// Not simple.
		{"a{1,1}", "1", "", "1"}, {"a{0}", "", "", "0"}, {"a{0}b", "1", "", "1"}, {"(a(bc))d", "1", "2,0; 3,0; 4,0; ", "4"}, {"a|(b|a)", "1 2", "; ", "1 2"}, {"a{2}|b|a{2}", "1 2", "1,0!; ", "1 2"}, {"(a?){2,3}", "1", "1,0!", "1 0"}, {"(a?){3,}", "1", "1,0", "1 0"}, {"a{1}{2}", "1", "1,0!", "1"}, {"(){5}a", "1", "", "1"}, {"()()", "", "", "0"},
		{"a~", "", "", ""}, {"~|~", "", "", ""}, {"~{2}", "", "", ""}, {"~*", "", "", "0"}, {"~?a", "1", "", "1"}, {"a~?b", "1", "2,0; ", "2"}, {"a(~|b)c", "1", "2,0; 3,0; ", "3"}, {"a(~|)b", "1", "2,0; ", "2"}, {"(a|~b){2}", "1", "1,0!", "1"}, {"(a(b{2}~)?){3}", "1", "1,0!", "1"},
	} {
		a := made(t, c[0])
		if numbers(a.First) != c[1] || movesTold(a) != c[2] || endsTold(a) != c[3] {
			t.Errorf("%q: %q %q %q, not %q", c[0], numbers(a.First), movesTold(a), endsTold(a), c[1:])
		}
		if len(a.Moves) != len(a.Map.Sets) || len(a.Last) != len(a.Map.Sets) || len(a.Moves[0]) != 0 || a.Last[0] {
			t.Errorf("%q: %v %v: 0 is no position", c[0], a.Moves, a.Last)
		}
	}
}

// P6.1: the map is layer 5's.
func TestMap(t *testing.T) {
	for _, text := range []string{"", "~", "a", "ab|c*", "(a{2,3}b){4,}", "(a?){3,5}b{0}(cd)(e|(f|e))", "((a{2}b){3}c{4}|d{5}){6}", "(~|a{2}){3}b{1}"} {
		n := read(t, text)
		want, _ := place.Of(n)
		if a := made(t, text); !reflect.DeepEqual(a.Map, want) {
			t.Errorf("%q: %v, not %v", text, a.Map, want)
		}
	}
}

// refused fails, if a tree isn't told to be wrong so, as layer 5 tells it, or if beside the error there is something.
func refused(t *testing.T, name string, n api.Node, want api.Errno) {
	t.Helper()
	if _, e := place.Of(n); e != want {
		t.Errorf("%s: layer 5: %d, not %d", name, e, want)
	}
	if a, e := Make(n); e != want || !reflect.DeepEqual(a, Auto{}) {
		t.Errorf("%s: %d %v, not %d", name, e, a, want)
	}
}

// P6.1: trees that aren't formed, wherever the fault is, whatever else is too much.
func TestUnformed(t *testing.T) {
	a := one("a")
	for _, n := range []api.Node{
		{Lo: 1}, {Hi: -1}, {Set: api.Class{1}}, {Parts: []api.Node{a, a}},
		{Kind: 1, Lo: 1}, {Kind: 1, Parts: []api.Node{a}}, {Kind: 2}, {Kind: 2, Parts: []api.Node{a}}, {Kind: 3}, {Kind: 3, Parts: []api.Node{a}}, {Kind: 3, Parts: []api.Node{a, a}, Hi: 2},
		{Kind: 4}, {Kind: 4, Hi: -1, Parts: []api.Node{a, a}}, {Kind: 5}, {Kind: 9}, {Kind: -1}, {Kind: math.MinInt},
		repeat(a, 3, 2), repeat(a, -1, 2), repeat(a, 0, -2), repeat(a, 2, api.MaxBound+1), repeat(a, api.MaxBound+1, -1), repeat(a, math.MaxInt64, math.MaxInt64), repeat(a, math.MinInt64, -1),
	} {
		many := slices.Repeat([]api.Node{a}, api.MaxPlaces+1)
		for _, m := range []api.Node{n, cats(a, n), cats(n, a), alts(n, a), repeat(n, 2, 3), repeat(n, 0, 0), cats(api.Node{Kind: 1}, n), cats(append(many, n)...), nested(n, 6)} {
			refused(t, "not formed", m, api.ErrArg)
		}
	}
}

// P6.1: as many positions, and scopes around one, as may be, and one more.
func TestLimits(t *testing.T) {
	a := one("a")
	most := slices.Repeat([]api.Node{a}, api.MaxPlaces)
	refused(t, "one position more", cats(append(most, a)...), api.ErrLimit)
	refused(t, "one position more, of {2}", repeat(cats(append(most, repeat(a, 2, 2))...), 0, -1), api.ErrLimit)
	refused(t, "one scope more", nested(a, api.MaxScopes+1), api.ErrLimit)
	refused(t, "one scope more, in a row", cats(a, nested(cats(a, nested(a, 2)), 3)), api.ErrLimit)

	row, e := Make(cats(most...))
	if e != api.OK || numbers(row.First) != "1" || endsTold(row) != strconv.Itoa(api.MaxPlaces) {
		t.Error(e, row)
	}
	for at := 1; at < api.MaxPlaces; at++ {
		if !slices.Equal(row.Moves[at], []Move{{To: at + 1}}) {
			t.Error(at, row.Moves[at])
		}
	}
	scopes, e := Make(nested(a, api.MaxScopes))
	if e != api.OK || movesTold(scopes) != "1,0! 1,1! 1,2! 1,3!" {
		t.Error(e, scopes)
	}
}

// P6.1: all moves that there may be, of as many positions, and scopes around each, as may be; with stars about each of them, both Again and not.
func TestMost(t *testing.T) {
	var parts []api.Node
	for i := range api.MaxPlaces {
		parts = append(parts, repeat(one(string([]byte{byte(i)})), 0, 1))
	}
	star := func(n api.Node) api.Node { return repeat(n, 0, -1) }
	n := star(cats(parts...))
	for range api.MaxScopes {
		n = star(repeat(n, 0, 5))
	}
	a, e := Make(n)
	if e != api.OK || len(a.First) != api.MaxPlaces || !a.Empty {
		t.Fatal(e, a.First, a.Empty)
	}
	var want []Move
	for to := 1; to <= api.MaxPlaces; to++ {
		for keep := range api.MaxScopes {
			want = append(want, Move{to, keep, false}, Move{to, keep, true})
		}
		want = append(want, Move{to, api.MaxScopes, false})
	}
	for at := 1; at <= api.MaxPlaces; at++ {
		if !slices.Equal(a.Moves[at], want) || a.First[at-1] != at || !a.Last[at] {
			t.Errorf("%d: %v", at, a.Moves[at])
		}
	}
}

// P6.2: a move keeps scopes that are around both its positions; one that is Again has one more of them in common.
func TestKept(t *testing.T) {
	for _, text := range []string{
		"a{2}", "a{2}*", "(ab){2}", "(a{2}b)*", "(a{2}b{3}){4}", "((ab?){2,3}c?){4}", "((a{2}b){3}c{4}|d{5}){6}", "(a|b{2}){3}(c{4}|d){5}e", "a{2}{3}{4}{5}", "(a{2}(b{3}c?){4}d*){5}((e{6})*|f){7,}g?",
		"((((a?b){2}c?){3}d?){4}e?){5}", "(a{2}?b{3}?(c{4}?d{5}?){6}?){7}*",
	} {
		keeps(t, read(t, text), made(t, text))
	}
}

// keeps fails, if a move of an automaton keeps, or begins once more, a scope that isn't around both its positions.
func keeps(t *testing.T, n api.Node, a Auto) {
	t.Helper()
	for at, moves := range a.Moves {
		for _, m := range moves {
			in := m.Keep
			if m.Again {
				in++
			}
			from, to := a.Map.Around[at], a.Map.Around[m.To]
			if m.Keep < 0 || in > len(from) || in > len(to) || !slices.Equal(from[:in], to[:in]) {
				t.Errorf("%q: from %d %v: %v, %v", show.Text(n), at, m, from, to)
			}
		}
	}
}
