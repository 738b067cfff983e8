package fork

import (
	"math"
	"slices"
	"strings"
	"testing"

	"ostinato/api"
	"ostinato/class"
	"ostinato/moves"
	"ostinato/syntax"
)

const bound = api.MaxBound

// nested has four scopes around a, the first three of them around b, two around c, one around d, none around e.
const nested = "((((a{2,3}b?){2}c){3,}d?){1,4}e)*"

// great has bounds as great as may be; the three scopes are around a, two around b, one around c.
const great = "((a{2147483647}b?){2147483646,}c?){3,2147483647}[a-d]"

// auto is a text's automaton; in the text a ~ stands for a class of no byte.
func auto(t *testing.T, text string) moves.Auto {
	t.Helper()
	n, at, e := syntax.Parse(strings.ReplaceAll(text, "~", `[^\x00-\xff]`))
	if e != api.OK {
		t.Fatal(text, at, e)
	}
	a, e := moves.Make(n)
	if e != api.OK {
		t.Fatal(text, e)
	}
	return a
}

// at is a config of a position and of counts.
func at(position int, counts ...int64) api.Config {
	c := api.Config{At: position}
	copy(c.Count[:], counts)
	return c
}

// keep is a move that keeps so many scopes.
func keep(to, scopes int) moves.Move {
	return moves.Move{To: to, Keep: scopes}
}

// again is a move that keeps so many scopes, and begins the next one once more.
func again(to, scopes int) moves.Move {
	return moves.Move{To: to, Keep: scopes, Again: true}
}

// finds fails, if a text's first fork isn't that.
func finds(t *testing.T, text string, c api.Config, x, y int, b byte) {
	t.Helper()
	want := Fork{At: c, To: [2]int{x, y}, Byte: b}
	if f, is := Find(auto(t, text)); !is || f != want {
		t.Errorf("%q: %v %v, not %v", text, f, is, want)
	}
}

// none fails, if an automaton has a fork.
func none(t *testing.T, name any, a moves.Auto) {
	t.Helper()
	if f, is := Find(a); is || f != (Fork{}) {
		t.Errorf("%q: %v %v", name, f, is)
	}
}

// P15.1: the chapter's examples.
func TestExamples(t *testing.T) {
	finds(t, "a{2,3}a", at(1, 2), 1, 2, 'a')
	none(t, "a{2}a", auto(t, "a{2}a"))
}

// P15.1: no fork, where there are no two positions, whether the tree is nullable or not, and whatever moves there are from the one to itself.
func TestNoTwo(t *testing.T) {
	for _, text := range []string{
		"", "~", "~*", "a~", "a~|b{0}", "(a{0}|b{0})*",
		"a", "a?", "a+", "a*", ".*", "a~|b*", "a{2}", "a{2,}", "a{2,3}", "a{0,3}", "a{2,3}*", "(a{1,2}){1,3}", "a{2,3}{4,5}{2,}", "a{2}+{3,}*", "a{2147483647,}",
	} {
		none(t, text, auto(t, text))
	}
	none(t, "no automaton", moves.Auto{})
}

// P15.1: at the beginning, the first two by the first of them, then by the second one.
func TestBeginning(t *testing.T) {
	for _, c := range []struct {
		text string
		x, y int
		b    byte
	}{
		{"ab|ac", 1, 3, 'a'}, {"a?a", 1, 2, 'a'}, {"a?b?a", 1, 3, 'a'}, {"a*a", 1, 2, 'a'}, {"(ab)*a", 1, 3, 'a'}, {"(ab|ac)?", 1, 3, 'a'}, {"(a*a)*", 1, 2, 'a'}, {"b?c?(d|a?e)?a", 4, 6, 'a'},
		// Neither by the byte, nor by how near they are.
		{"[cd]|[ab]|[bc]|ad", 1, 3, 'c'}, {"a|b|[bc]|c", 2, 3, 'b'}, {"b|[ac]|cd|bd|ad", 1, 5, 'b'}, {"[ab]|bd|ad", 1, 2, 'b'}, {"d|c|b|a|[ab]", 3, 5, 'b'},
		// Whatever scopes there are: all of them have just begun.
		{"a{2}b|(ac){3}", 1, 3, 'a'}, {"(a|b{2}|(ab){3}){2}", 1, 3, 'a'}, {"a{0,2}a", 1, 2, 'a'}, {"((a{2}b){3}|(a{4}c){5}){6}", 1, 3, 'a'}, {"a{2147483647}b|a{2147483647,}", 1, 3, 'a'},
		// Ahead of all positions.
		{"b{2,3}b|cd|ce", 3, 5, 'c'}, {"(b{2,3}b)?(c*c)", 3, 4, 'c'}, {"a(a?a|b)|bd|bc", 5, 7, 'b'},
	} {
		finds(t, c.text, at(0), c.x, c.y, c.b)
	}
}

// P15.1: at right configs, of positions without scopes and with some.
func TestBehind(t *testing.T) {
	for _, c := range []struct {
		text string
		at   api.Config
		x, y int
		b    byte
	}{
		{"ca?a", at(1), 2, 3, 'a'}, {"ca*b?a", at(1), 2, 4, 'a'}, {"c(ab)*a", at(1), 2, 4, 'a'}, {"ba{0,3}a", at(1), 2, 3, 'a'}, {"b(a{7}|a{8})", at(1), 2, 3, 'a'}, {"a+a", at(1), 1, 2, 'a'}, {"(ab?)+b", at(1), 2, 3, 'b'}, {"ba?c?[ab]", at(1), 2, 4, 'a'},
		// One move leaves the scope, and one begins it once more.
		{"a{1,3}a", at(1, 1), 1, 2, 'a'}, {"a{4,5}a", at(1, 4), 1, 2, 'a'}, {"a{2,}a", at(1, 2), 1, 2, 'a'}, {"a{1000,2000000000}[ab]", at(1, 1000), 1, 2, 'a'}, {"[ab]{2,3}b", at(1, 2), 1, 2, 'b'}, {"(ba?){3,9}[ab]", at(1, 3), 1, 3, 'b'},
		// Both keep it, or both leave it. (Where both begin it once more, both were begun together ahead of that: a fork that comes first.)
		{"(ca?a){3}", at(1, 1), 2, 3, 'a'}, {"(c(a|ab)d){0,9}", at(1, 1), 2, 3, 'a'}, {"(ca?(b|[ac]))+", at(1), 2, 4, 'a'}, {"c{5}(a|ab)", at(1, 5), 2, 3, 'a'}, {"(c{5}(a|ab)){6,}", at(1, 1, 5), 2, 3, 'a'},
		// One leaves it, the other one keeps it; or that one begins it once more, and the other one keeps it.
		{"(ca?){3}(b|a)", at(1, 3), 2, 4, 'a'}, {"(ba?){3}[ab]", at(1, 3), 2, 3, 'a'}, {"(ab?c?){3}[cd]", at(1, 3), 3, 4, 'c'}, {"(ab?[ac]?){3,}", at(1, 1), 1, 3, 'a'},
		// Scopes in scopes.
		{"(a{5}b{7}){8,9}a", at(2, 8, 7), 1, 3, 'a'}, {"a{2}{3,4}a", at(1, 3, 2), 1, 2, 'a'}, {"a{2,3}{3}a", at(1, 3, 2), 1, 2, 'a'}, {"(a{2,3}b?){2}[ab]", at(1, 2, 2), 1, 3, 'a'}, {"(a{2}[ab]?){3}", at(1, 1, 2), 1, 2, 'a'}, {"(a?b{2,}){2,4}b", at(2, 2, 2), 2, 3, 'b'}, {"(ca{2,3})*a", at(2, 2), 2, 3, 'a'}, {"((c{2}a?){3}a){4}", at(1, 1, 3, 2), 2, 3, 'a'},
	} {
		finds(t, c.text, c.at, c.x, c.y, c.b)
	}
}

// P15.1: the first fork, where there are several: in the order of the positions, then of the first move, then of the second one.
func TestOrder(t *testing.T) {
	// By the positions, whatever the bytes, and however long a word leads there.
	finds(t, "x(b|c)(a|ad)", at(2), 4, 5, 'a')
	finds(t, "x(cb?b|ba?a)", at(2), 3, 4, 'b')
	finds(t, "xyza?a|w(b?b)", at(3), 4, 5, 'a')
	finds(t, "a{1000,2000}a|c(b?b)", at(1, 1000), 1, 2, 'a')
	finds(t, "(a{7}b?c){9,}a|d(b?b)", at(3, 9), 1, 4, 'a')
	// By the first move, then by the second one, whatever the bytes.
	finds(t, "x(a|[bc]|b|ad)", at(1), 2, 5, 'a')
	finds(t, "x(d|a|[bc]|[be]|ad|bd)", at(1), 3, 6, 'a')
	finds(t, "x([ab]|c|b|a)", at(1), 2, 4, 'b')
	finds(t, "x([abc]|d|c|ad|bd)", at(1), 2, 4, 'c')
	// Moves to one position are several: of those to a, the one that leaves all scopes is first, though other ones agree at lesser counts.
	finds(t, "((a{2,3}[ab]?){2,4})*", at(1, 2, 2), 1, 2, 'a')
	finds(t, "(a{2,3}[ab]?){2,4}", at(1, 1, 2), 1, 2, 'a')
	// The first of them never may be made where the move to the other position may.
	finds(t, "(a{3,5}b?){2}[ab]", at(1, 2, 3), 1, 3, 'a')
	finds(t, "(a{2}b?){3,5}[ab]", at(1, 3, 2), 1, 3, 'a')
	finds(t, "(a{2}b?){3}[ab]", at(1, 3, 2), 2, 3, 'b')
}

// P15.1: two moves to different positions that may never both be made, moves to one position, and moves by different bytes are no forks.
func TestNever(t *testing.T) {
	for _, text := range []string{
		"a{2}a", "a{2147483647}a", "(a{2}b){3}a", "(a{5}b{7}){9}a", "((a{2}b){3}c){4}[abc]", "a{2}{3}a", "a{2}{3}{4}{5}a", "((a{2}b?){3}c?){4}a", "(a{2147483647}b{2147483647}){2147483647}a", "(ab?){3}a", "(a|b){5}b",
		"(a{2,3}){4,5}", "((a{1,2}b?){1,3}c)*", "(a{2,3})*", "(a{2,})+", "((a{2}b){2,})*", nested,
		"ab?c?", "a*b", "a{2,3}b", "(a|b){5,9}c", "(ab?){3,}c", "(a?b?c?)*", "(a{2,5}b{3,}){4,9}c?", "[a-m]{2,3}[n-z]", `[\x00-\x7f]{2,}[\x80-\xff]`, "([^a]*a){2,9}~?", "a{2,3}(b|~)",
	} {
		none(t, text, auto(t, text))
	}
}

// P15.1: the least byte that both have, at the beginning and behind a byte.
func TestByte(t *testing.T) {
	for _, c := range []struct {
		both string
		y    int
		b    byte
	}{
		{"[k-z]|[a-m]", 2, 'k'}, {"[cab]|[bad]", 2, 'a'}, {`.|[^\x01]`, 2, 0}, {`.|[^\x00]`, 2, 1}, {`\x00|[^a]`, 2, 0}, {`[^a]|[^\x00-\x60b]`, 2, 'c'}, {`[\x80-\xff]|\xff`, 2, 255}, {`[^\n]|\n\n|[\n\t]`, 4, '\t'},
		// In each of a class's words, the first and the last ones.
		{`[\x3f\x40]|[\x40\xc0]`, 2, 64}, {`[\x00\x3f]|[\x3f\x40]`, 2, 63}, {`[\x7f\x81]|[^\x00-\x7f]`, 2, 129}, {`[\x00-\x3f\xc0]|[\x40-\xff]`, 2, 192}, {`[\x01\xbf]|[\x02\xbf]`, 2, 191},
	} {
		finds(t, c.both, at(0), 1, c.y, c.b)
		finds(t, "x("+c.both+")", at(1), 2, c.y+1, c.b)
		finds(t, "x{7}("+c.both+")", at(1, 7), 2, c.y+1, c.b)
	}
}

// P15.1: by each byte, and by no other one.
func TestEachByte(t *testing.T) {
	one := func(b int) api.Node { return api.Node{Kind: 1, Set: class.Of(byte(b))} }
	for x := range 256 {
		for _, y := range []int{x, x ^ 1, x ^ 64, x ^ 128, 255 - x} {
			a, e := moves.Make(api.Node{Kind: 2, Parts: []api.Node{{Kind: 4, Parts: []api.Node{one(x)}, Lo: 2, Hi: 3}, one(y)}})
			if e != api.OK {
				t.Fatal(x, y, e)
			}
			f, is := Find(a)
			if is != (x == y) || is && f != (Fork{At: at(1, 2), To: [2]int{1, 2}, Byte: byte(x)}) {
				t.Errorf("%d, %d: %v %v", x, y, f, is)
			}
		}
	}
}

// agreeOn fails, if two moves of a position, in whatever order, don't agree on a config as their least one; or on any, if that is zero.
func agreeOn(t *testing.T, name any, a moves.Auto, position int, x, y moves.Move, want api.Config) {
	t.Helper()
	if position < 0 || position >= len(a.Moves) || !slices.Contains(a.Moves[position], x) || !slices.Contains(a.Moves[position], y) {
		t.Errorf("%q: %v and %v aren't moves of %d", name, x, y, position)
	}
	for _, m := range [][2]moves.Move{{x, y}, {y, x}} {
		if c, agree := Agree(a, position, m[0], m[1]); c != want || agree != (want != api.Config{}) {
			t.Errorf("%q: at %d %v agree on %v %v, not on %v", name, position, m, c, agree, want)
		}
	}
}

// P15.1: two moves within one scope, each of which keeps it, begins it once more, or leaves it (the config is zero, if they agree on no counts).
func TestAgree(t *testing.T) {
	keeps, begins, leaves := keep(2, 1), again(1, 0), keep(3, 0)
	for _, c := range []struct {
		bounds string
		// The least counts of each two of these moves; 0, if there is none.
		keepsBegins, keepsLeaves, beginsLeaves, leavesLeaves int64
	}{
		{"{2}", 1, 2, 0, 2}, {"{3}", 1, 3, 0, 3}, {"{9}", 1, 9, 0, 9}, {"{2147483647}", 1, bound, 0, bound},
		{"{0,2}", 1, 1, 1, 1}, {"{1,2}", 1, 1, 1, 1}, {"{0,9}", 1, 1, 1, 1}, {"{0,2147483647}", 1, 1, 1, 1}, {"{1,2147483647}", 1, 1, 1, 1},
		{"{2,3}", 1, 2, 2, 2}, {"{2,4}", 1, 2, 2, 2}, {"{3,4}", 1, 3, 3, 3}, {"{3,9}", 1, 3, 3, 3}, {"{8,9}", 1, 8, 8, 8}, {"{2,2147483647}", 1, 2, 2, 2}, {"{2147483646,2147483647}", 1, bound - 1, bound - 1, bound - 1},
		{"{2,}", 1, 2, 2, 2}, {"{3,}", 1, 3, 3, 3}, {"{9,}", 1, 9, 9, 9}, {"{2147483646,}", 1, bound - 1, bound - 1, bound - 1}, {"{2147483647,}", 1, bound, bound, bound},
	} {
		text := "(ab?)" + c.bounds + "c"
		a := auto(t, text)
		config := func(count int64) api.Config {
			if count == 0 {
				return at(0)
			}
			return at(1, count)
		}
		agreeOn(t, text, a, 1, keeps, keeps, at(1, 1))
		agreeOn(t, text, a, 1, begins, begins, at(1, 1))
		agreeOn(t, text, a, 1, keeps, begins, config(c.keepsBegins))
		agreeOn(t, text, a, 1, keeps, leaves, config(c.keepsLeaves))
		agreeOn(t, text, a, 1, begins, leaves, config(c.beginsLeaves))
		agreeOn(t, text, a, 1, leaves, leaves, config(c.leavesLeaves))
	}
}

// P15.1: where there is no scope around a position all its moves agree; one that is beside it asks nothing.
func TestAgreeBeside(t *testing.T) {
	for _, c := range []struct {
		text     string
		position int
	}{
		{"ab?c", 1}, {"(ab?)?c", 1}, {"(ab?)*c", 1}, {"(ab?)+c", 1}, {"(ab?){1}c", 1}, {"(ab?){0,1}c", 1}, {"ab{2}?c", 1}, {"a(b{2}{3,}c)?c{9}", 1}, {"d{3}?ab?c", 2}, {"(d{3}|ab?){1,}c", 2},
	} {
		a := auto(t, c.text)
		for _, x := range a.Moves[c.position] {
			for _, y := range a.Moves[c.position] {
				agreeOn(t, c.text, a, c.position, x, y, at(c.position))
			}
		}
	}
}

// P15.1: two moves within scopes in scopes (the config is zero, if they agree on no counts).
func TestAgreeNested(t *testing.T) {
	const twice, inner, stars = "a{2,3}{3}b", "(a{2}b?){2,}[ab]", "((a{3,4}b?)*c{2}){5,}*"
	not := at(0)
	for _, c := range []struct {
		text string
		x, y moves.Move
		want api.Config
	}{
		{twice, again(1, 0), again(1, 0), at(1, 1, 2)}, {twice, again(1, 0), again(1, 1), at(1, 1, 2)}, {twice, again(1, 1), again(1, 1), at(1, 1, 1)}, {twice, again(1, 1), keep(2, 0), at(1, 3, 2)}, {twice, again(1, 0), keep(2, 0), not}, {twice, keep(2, 0), keep(2, 0), at(1, 3, 2)},
		{inner, again(1, 0), again(1, 0), at(1, 1, 2)}, {inner, again(1, 0), again(1, 1), not}, {inner, again(1, 1), again(1, 1), at(1, 1, 1)}, {inner, again(1, 0), keep(2, 1), at(1, 1, 2)}, {inner, again(1, 1), keep(2, 1), not}, {inner, keep(2, 1), keep(2, 1), at(1, 1, 2)}, {inner, again(1, 0), keep(3, 0), at(1, 2, 2)}, {inner, again(1, 1), keep(3, 0), not}, {inner, keep(2, 1), keep(3, 0), at(1, 2, 2)}, {inner, keep(3, 0), keep(3, 0), at(1, 2, 2)},
		// Left for what is entered anew, by a star within the outer scope.
		{stars, keep(1, 1), keep(1, 1), at(1, 1, 3)}, {stars, keep(1, 1), again(1, 1), at(1, 1, 3)}, {stars, again(1, 1), keep(3, 1), at(1, 1, 3)}, {stars, keep(1, 1), keep(2, 1), at(1, 1, 3)},
		// Of four scopes, whatever number of them are kept.
		{nested, again(1, 3), again(1, 3), at(1, 1, 1, 1, 1)}, {nested, again(1, 2), again(1, 2), at(1, 1, 1, 1, 2)}, {nested, keep(2, 3), keep(2, 3), at(1, 1, 1, 1, 2)}, {nested, keep(3, 2), keep(3, 2), at(1, 1, 1, 2, 2)},
		{nested, again(1, 3), again(1, 2), at(1, 1, 1, 1, 2)}, {nested, again(1, 3), keep(2, 3), at(1, 1, 1, 1, 2)}, {nested, again(1, 3), keep(3, 2), at(1, 1, 1, 2, 2)}, {nested, again(1, 2), keep(2, 3), at(1, 1, 1, 1, 2)}, {nested, again(1, 2), keep(3, 2), not}, {nested, keep(2, 3), keep(3, 2), at(1, 1, 1, 2, 2)},
		// Bounds as great as may be.
		{great, again(1, 2), again(1, 2), at(1, 1, 1, 1)}, {great, again(1, 1), again(1, 1), at(1, 1, 1, bound)}, {great, again(1, 0), again(1, 0), at(1, 1, bound-1, bound)}, {great, keep(2, 2), keep(2, 2), at(1, 1, 1, bound)}, {great, keep(3, 1), keep(3, 1), at(1, 1, bound-1, bound)}, {great, keep(4, 0), keep(4, 0), at(1, 3, bound-1, bound)},
		{great, again(1, 2), again(1, 1), not}, {great, again(1, 2), again(1, 0), not}, {great, again(1, 2), keep(2, 2), not}, {great, again(1, 2), keep(4, 0), not}, {great, again(1, 1), again(1, 0), at(1, 1, bound-1, bound)}, {great, again(1, 1), keep(2, 2), at(1, 1, 1, bound)}, {great, again(1, 1), keep(3, 1), at(1, 1, bound-1, bound)}, {great, again(1, 1), keep(4, 0), at(1, 3, bound-1, bound)}, {great, again(1, 0), keep(4, 0), at(1, 3, bound-1, bound)}, {great, keep(2, 2), keep(3, 1), at(1, 1, bound-1, bound)},
	} {
		agreeOn(t, c.text, auto(t, c.text), 1, c.x, c.y, c.want)
	}
}

// P15.1: of positions with fewer scopes around them than others have.
func TestAgreeFewer(t *testing.T) {
	const middle, wide = "((a{2,3}b?){2}c?){3,}d", "((a{2,3}b?){2,5}c?){2,4}a"
	not := at(0)
	for _, c := range []struct {
		text     string
		position int
		x, y     moves.Move
		want     api.Config
	}{
		{nested, 2, again(1, 2), again(1, 2), at(2, 1, 1, 1)}, {nested, 2, again(1, 2), keep(3, 2), not}, {nested, 2, keep(3, 2), keep(3, 2), at(2, 1, 1, 2)},
		{nested, 3, again(1, 1), again(1, 1), at(3, 1, 1)}, {nested, 3, again(1, 0), again(1, 0), at(3, 1, 3)}, {nested, 3, again(1, 0), again(1, 1), at(3, 1, 3)}, {nested, 3, again(1, 1), keep(4, 1), at(3, 1, 3)}, {nested, 3, again(1, 1), keep(5, 0), at(3, 1, 3)}, {nested, 3, again(1, 0), keep(5, 0), at(3, 1, 3)}, {nested, 3, keep(4, 1), keep(5, 0), at(3, 1, 3)},
		{nested, 4, again(1, 0), again(1, 0), at(4, 1)}, {nested, 4, again(1, 0), keep(5, 0), at(4, 1)}, {nested, 4, keep(5, 0), keep(5, 0), at(4, 1)},
		{nested, 5, keep(1, 0), keep(1, 0), at(5)},
		{middle, 2, again(1, 1), again(1, 0), not}, {middle, 2, again(1, 1), keep(3, 1), not}, {middle, 2, again(1, 0), keep(3, 1), at(2, 1, 2)}, {middle, 2, again(1, 0), keep(4, 0), at(2, 3, 2)}, {middle, 2, keep(3, 1), keep(4, 0), at(2, 3, 2)}, {middle, 2, again(1, 1), keep(4, 0), not},
		{middle, 3, again(1, 0), again(1, 0), at(3, 1)}, {middle, 3, again(1, 0), keep(4, 0), at(3, 3)}, {middle, 3, keep(4, 0), keep(4, 0), at(3, 3)},
		{wide, 2, again(1, 1), again(1, 0), at(2, 1, 2)}, {wide, 2, again(1, 1), keep(3, 1), at(2, 1, 2)}, {wide, 2, again(1, 1), keep(4, 0), at(2, 2, 2)}, {wide, 2, again(1, 0), keep(4, 0), at(2, 2, 2)}, {wide, 3, again(1, 0), keep(4, 0), at(3, 2)},
		{great, 2, again(1, 1), again(1, 1), at(2, 1, 1)}, {great, 2, again(1, 1), again(1, 0), at(2, 1, bound-1)}, {great, 2, again(1, 1), keep(4, 0), at(2, 3, bound-1)}, {great, 3, again(1, 0), again(1, 0), at(3, 1)}, {great, 3, again(1, 0), keep(4, 0), at(3, 3)},
	} {
		agreeOn(t, c.text, auto(t, c.text), c.position, c.x, c.y, c.want)
	}
}

// wrong are moves of which a position may have none.
func wrong() []moves.Move {
	var l []moves.Move
	for _, to := range []int{math.MinInt, -1, 0, 1, 2, 3, 4, 5, 6, 40, math.MaxInt} {
		for _, scopes := range []int{math.MinInt, -1, 0, 1, 2, 3, 4, 5, math.MaxInt} {
			l = append(l, keep(to, scopes), again(to, scopes))
		}
	}
	return l
}

// P15.1: what isn't a move of the position agrees with nothing, whosever it is; nor does anything at what is no position.
func TestNoMove(t *testing.T) {
	differ := func(name string, a moves.Auto, position int, x, y moves.Move) {
		t.Helper()
		if c, agree := Agree(a, position, x, y); agree || c != (api.Config{}) {
			t.Errorf("%q: at %d %v and %v agree on %v", name, position, x, y, c)
		}
	}
	for _, text := range []string{"", "~", "ab", "a{2}", "a{2,3}a", "(ab?){3,}c", nested, great} {
		a := auto(t, text)
		for _, x := range wrong() {
			for position := -1; position <= len(a.Moves)+1; position++ {
				if position < 0 || position >= len(a.Moves) {
					differ(text, a, position, x, x)
				} else if l := a.Moves[position]; !slices.Contains(l, x) {
					differ(text, a, position, x, x)
					for _, y := range l {
						differ(text, a, position, x, y)
						differ(text, a, position, y, x)
					}
				}
			}
			for _, position := range []int{math.MinInt, math.MinInt + 1, -40, 41, math.MaxInt - 1, math.MaxInt} {
				differ(text, a, position, x, x)
			}
		}
		differ("no automaton", moves.Auto{}, 0, keep(0, 0), keep(0, 0))
		differ("no automaton", moves.Auto{}, 1, keep(1, 0), again(1, 0))
	}
	// A move of one position isn't one of another, though that has one to the same position.
	a := auto(t, "(a{2,3}b?){4}c")
	differ("of another", a, 2, keep(2, 1), again(1, 0))
	differ("of another", a, 2, again(1, 1), keep(3, 0))
	differ("of another", a, 3, again(1, 0), keep(3, 0))
	agreeOn(t, "its own", a, 2, keep(3, 0), keep(3, 0), at(2, 4))
}
