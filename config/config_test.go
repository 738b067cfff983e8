package config

import (
	"math"
	"slices"
	"strings"
	"testing"

	"ostinato/api"
	"ostinato/moves"
	"ostinato/syntax"
)

const bound = api.MaxBound

// nested has four scopes around a, the first three of them around b, two around c, one around d, none around e.
const nested = "((((a{2,3}b?){2}c){3,}d?){1,4}e)*"

// auto is a text's automaton; in the text a ~ stands for a class of no byte.
func auto(t *testing.T, text string) moves.Auto {
	t.Helper()
	n, at, e := syntax.Parse(strings.ReplaceAll(text, "~", `[^\x00-\xff]`))
	if e != api.OK {
		t.Fatal(text, at, e)
	}
	a, e := moves.Make(n)
	if e != api.OK {
		t.Fatal(text, e)
	}
	return a
}

// at is a config of a position and of counts.
func at(position int, counts ...int64) api.Config {
	c := api.Config{At: position}
	copy(c.Count[:], counts)
	return c
}

func list(l ...api.Config) []api.Config {
	return l
}

// none fails, if anything but none, or false, is told of a config that isn't right.
func none(t *testing.T, text string, a moves.Auto, c api.Config) {
	t.Helper()
	if Right(a, c) {
		t.Errorf("%q: %v isn't right", text, c)
	}
	if Accepts(a, c) {
		t.Errorf("%q: %v isn't right, and accepts", text, c)
	}
	for b := range 256 {
		if l := Step(a, c, byte(b)); len(l) != 0 {
			t.Errorf("%q: %v isn't right, and has %v behind it", text, c, l)
		}
	}
	for _, l := range append([][]moves.Move{{{}, {To: 1}, {To: 1, Again: true}}}, a.Moves...) {
		for _, m := range l {
			if to, may := May(a, c, m); may || to != (api.Config{}) {
				t.Errorf("%q: %v isn't right, and %v comes to %v", text, c, m, to)
			}
		}
	}
}

// P7.1: configs that are right, and that aren't; of these each function tells none, or false.
func TestRight(t *testing.T) {
	for _, c := range []struct {
		text         string
		right, wrong []api.Config
	}{
		{"", nil, list(at(0), at(1), at(-1), at(0, 1), at(1, 1))},
		{"~", nil, list(at(0), at(1), at(0, 1), at(1, 1))},
		// Without a scope around the position.
		{"ab*c?", list(at(1), at(2), at(3)),
			list(at(0), at(4), at(-1), at(math.MaxInt), at(math.MinInt), at(1, 1), at(2, 1), at(2, -1), at(3, 0, 1), at(3, 0, 0, 1), at(3, 0, 0, 0, 1), at(3, 0, 0, 0, -1), at(1, math.MinInt64), at(1, math.MaxInt64))},
		{"(a?b)*", list(at(1), at(2)), list(at(0), at(3), at(1, 1), at(2, 1), at(1, -1))},
		// From 1 to High, whatever Low is.
		{"a{2}*", list(at(1, 1), at(1, 2)),
			list(at(1), at(1, 3), at(1, -1), at(1, math.MaxInt64), at(1, math.MinInt64), at(0, 1), at(2, 1), at(-1, 1), at(1, 1, 1), at(1, 2, 1), at(1, 2, 0, 1), at(1, 2, 0, 0, 1), at(1, 2, -1), at(1, 0, 1))},
		{"a{0,3}", list(at(1, 1), at(1, 2), at(1, 3)), list(at(1), at(1, 4), at(1, -1), at(0, 1))},
		{"a{2,3}", list(at(1, 1), at(1, 2), at(1, 3)), list(at(1), at(1, 4), at(1, -2))},
		// Of High -1 from 1 to Low.
		{"a{2,}", list(at(1, 1), at(1, 2)), list(at(1), at(1, 3), at(1, -1), at(1, math.MaxInt64), at(1, math.MinInt64), at(1, 2, 2))},
		{"a{5,}b?", list(at(1, 1), at(1, 4), at(1, 5), at(2)), list(at(1), at(1, 6), at(1, -1), at(2, 1), at(2, 5), at(3))},
		{"a{2147483647}b{0,2147483647}c{2147483647,}", list(at(1, 1), at(1, bound), at(2, 1), at(2, bound), at(3, 1), at(3, bound-1), at(3, bound)),
			list(at(1, bound+1), at(2, bound+1), at(3, bound+1), at(1, 1<<32+1), at(2, 1<<32+1), at(3, 1<<32+1), at(1, -bound), at(3, -bound))},
		// Scopes beside a position aren't around it.
		{"a{2}b{3}c{4}", list(at(1, 2), at(2, 3), at(3, 4)), list(at(1, 3), at(2, 4), at(3, 5), at(1, 2, 1), at(2, 3, 1), at(3, 4, 1), at(2, 2, 3), at(3, 2, 3, 4))},
		{nested, list(at(1, 1, 1, 1, 1), at(1, 4, 3, 2, 3), at(2, 1, 1, 1), at(2, 4, 3, 2), at(3, 1, 1), at(3, 4, 3), at(4, 1), at(4, 4), at(5)),
			list(at(1, 5, 1, 1, 1), at(1, 1, 4, 1, 1), at(1, 1, 1, 3, 1), at(1, 1, 1, 1, 4), at(1, 0, 1, 1, 1), at(1, 1, 0, 1, 1), at(1, 1, 1, 0, 1), at(1, 1, 1, 1), at(1, -1, 1, 1, 1), at(1, 1, -1, 1, 1), at(1, 1, 1, -1, 1), at(1, 1, 1, 1, -1),
				at(2, 4, 3, 2, 1), at(2, 4, 3, 3), at(2, 4, 3), at(3, 4, 3, 1), at(3, 4, 4), at(3, 4), at(3, 4, 3, 0, 1), at(4, 4, 1), at(4, 5), at(4), at(4, 4, 0, 1), at(5, 1), at(5, 0, 0, 0, 1), at(6), at(6, 1, 1, 1, 1), at(0), at(0, 1, 1, 1, 1))},
	} {
		a := auto(t, c.text)
		for _, right := range c.right {
			if !Right(a, right) {
				t.Errorf("%q: %v is right", c.text, right)
			}
		}
		for _, wrong := range c.wrong {
			none(t, c.text, a, wrong)
		}
	}
}

// P7.1: moves that may be made, and what they come to (nothing, if they may not).
func TestMay(t *testing.T) {
	keep := func(to, keep int) moves.Move { return moves.Move{To: to, Keep: keep} }
	again := func(to, keep int) moves.Move { return moves.Move{To: to, Keep: keep, Again: true} }
	const twice, inner, three = "a{2,4}*", "(a{2}b?){3}", "(a{2}b{3,}c){4}d"
	not := at(0)
	for _, c := range []struct {
		text string
		from api.Config
		m    moves.Move
		to   api.Config
	}{
		// No scope.
		{"ab*", at(1), keep(2, 0), at(2)}, {"ab*", at(2), keep(2, 0), at(2)},
		// Begun once more, while there is a next time; of High -1 there always is.
		{"a{2}", at(1, 1), again(1, 0), at(1, 2)}, {"a{2}", at(1, 2), again(1, 0), not},
		{"a{0,3}", at(1, 1), again(1, 0), at(1, 2)}, {"a{0,3}", at(1, 2), again(1, 0), at(1, 3)}, {"a{0,3}", at(1, 3), again(1, 0), not},
		{"a{3,}", at(1, 1), again(1, 0), at(1, 2)}, {"a{3,}", at(1, 2), again(1, 0), at(1, 3)}, {"a{3,}", at(1, 3), again(1, 0), at(1, 3)},
		{"a{2147483647}", at(1, bound-1), again(1, 0), at(1, bound)}, {"a{2147483647}", at(1, bound), again(1, 0), not},
		{"a{2147483647,}", at(1, bound-1), again(1, 0), at(1, bound)}, {"a{2147483647,}", at(1, bound), again(1, 0), at(1, bound)},
		// Left, from Low on, and entered anew: not Again, to the same position as one that is.
		{twice, at(1, 1), keep(1, 0), not}, {twice, at(1, 1), again(1, 0), at(1, 2)}, {twice, at(1, 2), keep(1, 0), at(1, 1)}, {twice, at(1, 2), again(1, 0), at(1, 3)}, {twice, at(1, 4), keep(1, 0), at(1, 1)}, {twice, at(1, 4), again(1, 0), not},
		// Left for no scope, for others, and none for some.
		{"a{2}b", at(1, 1), keep(2, 0), not}, {"a{2}b", at(1, 2), keep(2, 0), at(2)}, {"a{3,}b", at(1, 2), keep(2, 0), not}, {"a{3,}b", at(1, 3), keep(2, 0), at(2)}, {"a{0,9}b", at(1, 1), keep(2, 0), at(2)},
		{"a{2}b{5}{6}", at(1, 1), keep(2, 0), not}, {"a{2}b{5}{6}", at(1, 2), keep(2, 0), at(2, 1, 1)}, {"ab{5}", at(1), keep(2, 0), at(2, 1)}, {"ab{5}{6}{7}{8}", at(1), keep(2, 0), at(2, 1, 1, 1, 1)},
		{"a{2147483647}b", at(1, bound-1), keep(2, 0), not}, {"a{2147483647}b", at(1, bound), keep(2, 0), at(2)},
		// The inner one once more; the outer one, the inner one left; the outer one kept, the inner one left.
		{inner, at(1, 2, 1), again(1, 1), at(1, 2, 2)}, {inner, at(1, 2, 2), again(1, 1), not}, {inner, at(1, 3, 1), again(1, 1), at(1, 3, 2)},
		{inner, at(1, 1, 1), again(1, 0), not}, {inner, at(1, 1, 2), again(1, 0), at(1, 2, 1)}, {inner, at(1, 2, 2), again(1, 0), at(1, 3, 1)}, {inner, at(1, 3, 2), again(1, 0), not}, {inner, at(1, 3, 1), again(1, 0), not},
		{inner, at(1, 2, 1), keep(2, 1), not}, {inner, at(1, 2, 2), keep(2, 1), at(2, 2)}, {inner, at(1, 3, 2), keep(2, 1), at(2, 3)},
		{inner, at(2, 1), again(1, 0), at(1, 2, 1)}, {inner, at(2, 2), again(1, 0), at(1, 3, 1)}, {inner, at(2, 3), again(1, 0), not},
		// One left for another beside it, within one that is kept.
		{three, at(1, 3, 1), keep(2, 1), not}, {three, at(1, 3, 2), keep(2, 1), at(2, 3, 1)}, {three, at(2, 3, 2), keep(3, 1), not}, {three, at(2, 4, 3), keep(3, 1), at(3, 4)}, {three, at(3, 3), again(1, 0), at(1, 4, 1)}, {three, at(3, 4), again(1, 0), not}, {three, at(3, 3), keep(4, 0), not}, {three, at(3, 4), keep(4, 0), at(4)},
		// Of four scopes, each number of them kept, and begun once more.
		{nested, at(1, 2, 2, 1, 1), again(1, 3), at(1, 2, 2, 1, 2)}, {nested, at(1, 2, 2, 1, 3), again(1, 3), not},
		{nested, at(1, 2, 2, 1, 1), again(1, 2), not}, {nested, at(1, 2, 2, 1, 2), again(1, 2), at(1, 2, 2, 2, 1)}, {nested, at(1, 2, 2, 2, 2), again(1, 2), not},
		{nested, at(1, 2, 2, 1, 1), keep(2, 3), not}, {nested, at(1, 2, 2, 1, 2), keep(2, 3), at(2, 2, 2, 1)}, {nested, at(1, 2, 2, 2, 1), keep(3, 2), not}, {nested, at(1, 2, 2, 1, 3), keep(3, 2), not}, {nested, at(1, 2, 2, 2, 3), keep(3, 2), at(3, 2, 2)},
		{nested, at(3, 2, 1), again(1, 1), at(1, 2, 2, 1, 1)}, {nested, at(3, 2, 3), again(1, 1), at(1, 2, 3, 1, 1)}, {nested, at(3, 2, 2), again(1, 0), not}, {nested, at(3, 2, 3), again(1, 0), at(1, 3, 1, 1, 1)}, {nested, at(3, 4, 3), again(1, 0), not},
		{nested, at(3, 2, 2), keep(4, 1), not}, {nested, at(3, 2, 3), keep(4, 1), at(4, 2)}, {nested, at(3, 1, 2), keep(5, 0), not}, {nested, at(3, 1, 3), keep(5, 0), at(5)}, {nested, at(4, 3), again(1, 0), at(1, 4, 1, 1, 1)}, {nested, at(4, 4), again(1, 0), not}, {nested, at(4, 1), keep(5, 0), at(5)}, {nested, at(5), keep(1, 0), at(1, 1, 1, 1, 1)},
	} {
		a := auto(t, c.text)
		if !slices.Contains(a.Moves[c.from.At], c.m) || !Right(a, c.from) {
			t.Errorf("%q: %v is no move of %v", c.text, c.m, c.from)
		}
		if to, may := May(a, c.from, c.m); to != c.to || may != (c.to != not) {
			t.Errorf("%q: from %v %v comes to %v %v, not %v", c.text, c.from, c.m, to, may, c.to)
		}
	}
}

// P7.1: what isn't a move of the position may not be made, whatever it is, and whosever.
func TestNoMove(t *testing.T) {
	for _, c := range []struct {
		text string
		from api.Config
		m    moves.Move
	}{
		{"a", at(1), moves.Move{To: 1}}, {"ab", at(2), moves.Move{To: 2}}, {"ab", at(1), moves.Move{To: 1}}, {"ab", at(1), moves.Move{}}, {"ab", at(1), moves.Move{To: 3}}, {"ab", at(1), moves.Move{To: -1}}, {"ab", at(1), moves.Move{To: 2, Keep: 1}}, {"ab", at(1), moves.Move{To: 2, Keep: -1}}, {"ab", at(1), moves.Move{To: 2, Again: true}},
		{"a{2}", at(1, 2), moves.Move{To: 1}}, {"a{2}", at(1, 1), moves.Move{To: 1, Keep: 1}}, {"a{2}", at(1, 1), moves.Move{To: 1, Keep: 1, Again: true}}, {"a{2}", at(1, 1), moves.Move{To: 1, Keep: math.MaxInt, Again: true}}, {"a{2}", at(1, 1), moves.Move{To: math.MaxInt, Again: true}}, {"a{2}", at(1, 1), moves.Move{To: math.MinInt, Keep: math.MinInt, Again: true}},
		{"(a{2}b)*", at(1, 2), moves.Move{To: 1}}, {"(a{2}b)*", at(2), moves.Move{To: 1, Again: true}}, {"(a{2}b)*", at(2), moves.Move{To: 2}}, {"a{2}{3}", at(1, 1, 2), moves.Move{To: 1}}, {"a{2}{3}", at(1, 1, 2), moves.Move{To: 1, Keep: 1}}, {"a{2}{3}", at(1, 1, 2), moves.Move{To: 1, Keep: 2}}, {"a{2}{3}{4}{5}", at(1, 1, 1, 1, 1), moves.Move{To: 1, Keep: 4, Again: true}},
	} {
		a := auto(t, c.text)
		if to, may := May(a, c.from, c.m); may || to != (api.Config{}) || !Right(a, c.from) {
			t.Errorf("%q: from %v %v comes to %v", c.text, c.from, c.m, to)
		}
	}
}

// P7.1: the configs with which words begin, by bytes that some positions share, that one has, and that none has.
func TestBegin(t *testing.T) {
	const some = "a|[ab]c|b{2}|[^a]{2}{3}d"
	for _, c := range []struct {
		text string
		b    byte
		want []api.Config
	}{
		{"", 'a', nil}, {"~", 'a', nil}, {"a", 'a', list(at(1))}, {"a", 'b', nil}, {"ab", 'b', nil}, {"()a?", 'a', list(at(1))},
		{some, 'a', list(at(1), at(2))}, {some, 'b', list(at(2), at(4, 1), at(5, 1, 1))}, {some, 'c', list(at(5, 1, 1))}, {some, 0, list(at(5, 1, 1))}, {some, 255, list(at(5, 1, 1))},
		{"a?b{0,2}c*[bd]", 'a', list(at(1))}, {"a?b{0,2}c*[bd]", 'b', list(at(2, 1), at(4))}, {"a?b{0,2}c*[bd]", 'c', list(at(3))}, {"a?b{0,2}c*[bd]", 'd', list(at(4))}, {"a?b{0,2}c*[bd]", 'e', nil},
		{"a*a{2}{3,}a{5}", 'a', list(at(1), at(2, 1, 1))}, {"(a?){2}(a?a){3}", 'a', list(at(1, 1), at(2, 1), at(3, 1))}, {`\x00|.|[\x00\xff]`, 0, list(at(1), at(2), at(3))}, {`\x00|.|[\x00\xff]`, 255, list(at(2), at(3))}, {`\x00|.|[\x00\xff]`, 128, list(at(2))},
		{nested, 'a', list(at(1, 1, 1, 1, 1))}, {nested, 'b', nil}, {"a{2147483647}|a{2147483647,}", 'a', list(at(1, 1), at(2, 1))},
	} {
		if l := Begin(auto(t, c.text), c.b); !slices.Equal(l, c.want) {
			t.Errorf("%q: by %d %v, not %v", c.text, c.b, l, c.want)
		}
	}
}

// P7.1: the configs behind a byte at another one: rising, and each once.
func TestStep(t *testing.T) {
	const some, inner = "a(b|[bc]|.{2}{3})", "(a{2,3}b?){2}c"
	for _, c := range []struct {
		text string
		from api.Config
		b    byte
		want []api.Config
	}{
		{"a", at(1), 'a', nil}, {"ab", at(1), 'b', list(at(2))}, {"ab", at(1), 'a', nil}, {"ab", at(2), 'a', nil}, {"ab", at(2), 'b', nil}, {"a*", at(1), 'a', list(at(1))}, {"a*", at(1), 'b', nil},
		{some, at(1), 'b', list(at(2), at(3), at(4, 1, 1))}, {some, at(1), 'c', list(at(3), at(4, 1, 1))}, {some, at(1), 0, list(at(4, 1, 1))}, {some, at(1), 255, list(at(4, 1, 1))}, {some, at(4, 1, 1), 'b', list(at(4, 1, 2))}, {some, at(4, 1, 2), 'b', list(at(4, 2, 1))}, {some, at(4, 3, 2), 'b', nil},
		{inner, at(1, 1, 1), 'a', list(at(1, 1, 2))}, {inner, at(1, 1, 3), 'a', list(at(1, 2, 1))}, {inner, at(1, 2, 2), 'a', list(at(1, 2, 3))}, {inner, at(1, 2, 3), 'a', nil}, {inner, at(1, 1, 3), 'b', list(at(2, 1))}, {inner, at(1, 1, 1), 'b', nil}, {inner, at(2, 1), 'a', list(at(1, 2, 1))}, {inner, at(2, 2), 'a', nil}, {inner, at(2, 2), 'c', list(at(3))}, {inner, at(2, 1), 'c', nil}, {inner, at(1, 2, 2), 'c', list(at(3))}, {inner, at(3), 'c', nil},
		// Rising, where the moves to them aren't.
		{inner, at(1, 1, 2), 'a', list(at(1, 1, 3), at(1, 2, 1))}, {"a{1,3}*", at(1, 2), 'a', list(at(1, 1), at(1, 3))}, {"a{1,2}{1,2}{1,2}{1,2}", at(1, 1, 1, 1, 1), 'a', list(at(1, 1, 1, 1, 2), at(1, 1, 1, 2, 1), at(1, 1, 2, 1, 1), at(1, 2, 1, 1, 1))}, {"(a{1,9}a)*a", at(1, 3), 'a', list(at(1, 4), at(2))}, {"(a{1,9}a)*a", at(2), 'a', list(at(1, 1), at(3))},
		// Once, though two moves come to it: with the outer scope begun once more, and kept.
		{"a{2}+{2,}", at(1, 2, 2), 'a', list(at(1, 2, 1))}, {"a{2}+{2,}", at(1, 1, 2), 'a', list(at(1, 1, 1), at(1, 2, 1))}, {"a{1,2}+{2,}", at(1, 2, 1), 'a', list(at(1, 2, 1), at(1, 2, 2))}, {"(ab)+{3,}c", at(2, 3), 'a', list(at(1, 3))}, {"(ab)+{3,}c", at(2, 2), 'a', list(at(1, 2), at(1, 3))}, {"[ab]+{2,}", at(1, 2), 'b', list(at(1, 2))},
		// Bounds of any size.
		{"a{2,2147483647}a", at(1, bound-1), 'a', list(at(1, bound), at(2))}, {"a{2,2147483647}a", at(1, bound), 'a', list(at(2))}, {"a{2147483647,}a", at(1, bound), 'a', list(at(1, bound), at(2))}, {"a{2147483647,}a", at(1, bound-1), 'a', list(at(1, bound))},
	} {
		if l := Step(auto(t, c.text), c.from, c.b); !slices.Equal(l, c.want) {
			t.Errorf("%q: from %v by %d %v, not %v", c.text, c.from, c.b, l, c.want)
		}
	}
}

// P7.1: a config accepts, if the tree ends with its position, and all scopes around that may be left.
func TestAccepts(t *testing.T) {
	for _, c := range []struct {
		text    string
		yes, no []api.Config
	}{
		{"", nil, list(at(0), at(1))}, {"~", nil, list(at(0), at(1))}, {"a", list(at(1)), list(at(0), at(2), at(1, 1))}, {"ab", list(at(2)), list(at(1))}, {"ab?", list(at(1), at(2)), nil}, {"a|bc*", list(at(1), at(2), at(3)), nil}, {"(a*b)*", list(at(2)), list(at(1))},
		{"a{2}", list(at(1, 2)), list(at(1, 1), at(1, 3))}, {"a{2,}", list(at(1, 2)), list(at(1, 1), at(1, 3))}, {"a{2,4}", list(at(1, 2), at(1, 3), at(1, 4)), list(at(1, 1), at(1, 5))}, {"a{0,2}", list(at(1, 1), at(1, 2)), list(at(1, 0), at(1, 3))}, {"(a?){2,3}", list(at(1, 1), at(1, 2), at(1, 3)), list(at(1, 4))},
		{"a{2}b", list(at(2)), list(at(1, 1), at(1, 2))}, {"a{2}b*", list(at(1, 2), at(2)), list(at(1, 1))}, {"ab{2,}", list(at(2, 2)), list(at(1), at(2, 1))},
		{"(a{2}b?){3}", list(at(1, 3, 2), at(2, 3)), list(at(1, 3, 1), at(1, 2, 2), at(2, 2), at(2, 3, 2))}, {"(a{2}b){3}", list(at(2, 3)), list(at(1, 3, 2), at(2, 1))}, {"(a|b{2,}){3}{2,}", list(at(1, 2, 3), at(2, 2, 3, 2)), list(at(1, 1, 3), at(1, 2, 2), at(2, 1, 3, 2), at(2, 2, 2, 2), at(2, 2, 3, 1))},
		{"a{2}{3}{4}{5}", list(at(1, 5, 4, 3, 2)), list(at(1, 4, 4, 3, 2), at(1, 5, 3, 3, 2), at(1, 5, 4, 2, 2), at(1, 5, 4, 3, 1), at(1, 2, 3, 4, 5))}, {nested, list(at(5)), list(at(1, 4, 3, 2, 3), at(2, 4, 3, 2), at(3, 4, 3), at(4, 4))},
		{"a{2147483647}|b{2147483647,}", list(at(1, bound), at(2, bound)), list(at(1, bound-1), at(2, bound-1), at(1, bound+1), at(2, bound+1), at(1, 1))},
	} {
		a := auto(t, c.text)
		for _, yes := range c.yes {
			if !Accepts(a, yes) {
				t.Errorf("%q: %v accepts", c.text, yes)
			}
		}
		for _, no := range c.no {
			if Accepts(a, no) {
				t.Errorf("%q: %v doesn't accept", c.text, no)
			}
		}
	}
}

// P7.2: configs, right ones and others, are told apart by At first, then by the outermost count that is another.
func TestOrder(t *testing.T) {
	l := list(
		at(math.MinInt, 9), at(-1, 9), at(0), at(0, 0, 0, 0, 1), at(0, 1), at(1, math.MinInt64), at(1, -1, 9), at(1, 0, 9, 9, 9), at(1, 1), at(1, 1, 0, 0, 9), at(1, 1, 0, 9), at(1, 1, 1, -1), at(1, 1, 1, 0, 8), at(1, 1, 1, 1, math.MinInt64), at(1, 1, 1, 1), at(1, 1, 1, 1, 1), at(1, 1, 1, 1, 1<<32), at(1, 1, 1, 1, math.MaxInt64),
		at(1, 1, 2), at(1, 1, math.MaxInt64), at(1, 2, 1, 9, 9), at(1, bound), at(1, bound+1), at(1, math.MaxInt64), at(2, math.MinInt64), at(2), at(2, 1, 1, 1, 1), at(10), at(math.MaxInt),
	)
	for i, a := range l {
		for k, b := range l {
			want := 0
			if i < k {
				want = -1
			} else if i > k {
				want = 1
			}
			if got := Order(a, b); got != want {
				t.Errorf("%v and %v: %d, not %d", a, b, got, want)
			}
		}
	}
}
