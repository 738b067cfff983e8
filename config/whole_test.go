package config

import (
	"reflect"
	"regexp"
	"slices"
	"strings"
	"testing"

	"ostinato/api"
	"ostinato/class"
	"ostinato/moves"
)

// ceiling is the greatest count of one of the scopes around a position; behind them, 0.
func ceiling(a moves.Auto, position, i int) int64 {
	around := a.Map.Around[position]
	if i >= len(around) {
		return 0
	}
	s := a.Map.Scopes[around[i]]
	return max(s.Low, s.High)
}

// rights are all right configs of an automaton, rising.
func rights(a moves.Auto) []api.Config {
	var l []api.Config
	for position := 1; position < len(a.Map.Around); position++ {
		l = append(l, counted(a, at(position), 0)...)
	}
	return l
}

// counted are all right configs of a position with the first counts of another one.
func counted(a moves.Auto, c api.Config, i int) []api.Config {
	if i == len(a.Map.Around[c.At]) {
		return list(c)
	}
	var l []api.Config
	for count := int64(1); count <= ceiling(a, c.At, i); count++ {
		c.Count[i] = count
		l = append(l, counted(a, c, i+1)...)
	}
	return l
}

// spoilt are configs that differ from a right one in one thing, by which they aren't right.
func spoilt(a moves.Auto, c api.Config) []api.Config {
	l := list(api.Config{At: 0, Count: c.Count}, api.Config{At: -c.At, Count: c.Count}, api.Config{At: len(a.Map.Around), Count: c.Count})
	for i := range c.Count {
		for _, count := range []int64{0, -1, ceiling(a, c.At, i) + 1, -c.Count[i]} {
			other := c
			other.Count[i] = count
			if other != c {
				l = append(l, other)
			}
		}
	}
	return l
}

// told is what the chapter says of a move, told by the scopes' numbers: those that are kept or begun once more have a count there.
func told(a moves.Auto, c api.Config, m moves.Move) (api.Config, bool) {
	counts := map[int]int64{}
	for i, number := range a.Map.Around[c.At] {
		s := a.Map.Scopes[number]
		switch {
		case i < m.Keep:
			counts[number] = c.Count[i]
		case i == m.Keep && m.Again && c.Count[i] == s.High, (i > m.Keep || !m.Again) && c.Count[i] < s.Low:
			return api.Config{}, false
		case i == m.Keep && m.Again:
			counts[number] = min(c.Count[i]+1, max(s.Low, s.High))
		}
	}
	to := at(m.To)
	for i, number := range a.Map.Around[m.To] {
		to.Count[i] = max(1, counts[number])
	}
	return to, true
}

// over tells whether all scopes around a config's position are at Low or above.
func over(a moves.Auto, c api.Config) bool {
	for i, number := range a.Map.Around[c.At] {
		if c.Count[i] < a.Map.Scopes[number].Low {
			return false
		}
	}
	return true
}

// having are those configs whose position has a byte, of configs that rise.
func having(a moves.Auto, l []api.Config, b byte) []api.Config {
	return slices.DeleteFunc(slices.Clone(l), func(c api.Config) bool { return !class.Has(a.Map.Sets[c.At], b) })
}

// anyMoves are moves of all kinds to all positions.
func anyMoves(a moves.Auto) []moves.Move {
	var l []moves.Move
	for to := range len(a.Map.Around) + 1 {
		for keep := range api.MaxScopes + 1 {
			l = append(l, moves.Move{To: to, Keep: keep}, moves.Move{To: to, Keep: keep, Again: true})
		}
	}
	return l
}

// leads fails, if what is told of a right config isn't what the chapter says of each of the moves that there may be, or isn't right.
func leads(t *testing.T, text string, a moves.Auto, all []api.Config, c api.Config, ways []moves.Move) {
	t.Helper()
	reached := map[api.Config]int{}
	for _, m := range ways {
		to, may := May(a, c, m)
		want, is := api.Config{}, false
		if slices.Contains(a.Moves[c.At], m) {
			want, is = told(a, c, m)
		}
		if to != want || may != is || may && !Right(a, to) {
			t.Errorf("%q: from %v %v comes to %v %v, not %v %v", text, c, m, to, may, want, is)
		}
		if is {
			reached[want]++
		}
	}
	behind := slices.DeleteFunc(slices.Clone(all), func(to api.Config) bool { return reached[to] == 0 })
	for _, b := range []byte("abc") {
		if l, want := Step(a, c, b), having(a, behind, b); !slices.Equal(l, want) {
			t.Errorf("%q: from %v by %d %v, not %v", text, c, b, l, want)
		}
	}
	if got, want := Accepts(a, c), a.Last[c.At] && over(a, c); got != want {
		t.Errorf("%q: %v accepts: %v", text, c, got)
	}
}

// holds fails, if of an automaton something is told that isn't what the chapter says.
func holds(t *testing.T, text string, wrong bool) {
	t.Helper()
	a := auto(t, text)
	all, ways := rights(a), anyMoves(a)
	begun := slices.DeleteFunc(slices.Clone(all), func(c api.Config) bool {
		return !slices.Contains(a.First, c.At) || slices.Max(c.Count[:]) > 1
	})
	for _, b := range []byte("abc") {
		if l, want := Begin(a, b), having(a, begun, b); !slices.Equal(l, want) {
			t.Errorf("%q: by %d %v, not %v", text, b, l, want)
		}
	}
	for i, c := range all {
		if !Right(a, c) {
			t.Errorf("%q: %v is right", text, c)
		}
		if i > 0 && Order(all[i-1], c) != -1 {
			t.Errorf("%q: %v isn't above %v", text, c, all[i-1])
		}
		leads(t, text, a, all, c, ways)
		if wrong {
			for _, other := range spoilt(a, c) {
				if Right(a, other) || Accepts(a, other) || len(Step(a, other, 'a'))+len(Step(a, other, 'b')) > 0 {
					t.Errorf("%q: %v isn't right", text, other)
				}
			}
		}
	}
}

// matched tells whether a word, that isn't empty, leads to a config that accepts.
func matched(a moves.Auto, word string) bool {
	now := Begin(a, word[0])
	for _, b := range []byte(word[1:]) {
		var next []api.Config
		for _, c := range now {
			next = append(next, Step(a, c, b)...)
		}
		slices.SortFunc(next, Order)
		now = slices.Compact(next)
	}
	return slices.ContainsFunc(now, func(c api.Config) bool { return Accepts(a, c) })
}

// words are all words of a and b with one to so many bytes.
func words(most int) []string {
	l := []string{"a", "b"}
	for i := 0; len(l[i]) < most; i++ {
		l = append(l, l[i]+"a", l[i]+"b")
	}
	return l
}

// matches fails, if the words that lead to a config that accepts aren't those of the expression.
func matches(t *testing.T, text string, l []string) {
	t.Helper()
	a, is := auto(t, text), regexp.MustCompile("^(?:"+text+")$")
	for _, word := range l {
		if got, want := matched(a, word), is.MatchString(word); got != want {
			t.Errorf("%q: %q is matched: %v", text, word, got)
		}
	}
}

// grown are expressions made of one, or of two of some.
func grown(of []string) []string {
	var l []string
	for _, x := range of {
		for _, times := range []string{"*", "?", "{2}", "{2,}", "{1,3}"} {
			l = append(l, "("+x+")"+times)
		}
		for _, y := range of {
			l = append(l, "("+x+")("+y+")", "("+x+")|("+y+")")
		}
	}
	return l
}

// P7.1, P7.3: of some thousand expressions, what each function tells of all configs is what the chapter says, and is right; and just their words lead to configs that accept.
func TestGrown(t *testing.T) {
	least := []string{"a", "b", "[ab]", "()"}
	small := append(grown(least), least...)
	all := append(grown(small), small...)
	short := words(4)
	for i, x := range all {
		y, z := all[(7*i+3)%len(all)], all[(11*i+5)%len(all)]
		deeper := []string{"((" + x + ")+){2,}", "((" + x + ")(" + y + ")?){2,3}", "(((" + x + "){3}|" + y + ")*(" + z + ")){3,}"}[i%3]
		for _, text := range []string{x, deeper} {
			if text == x || i%4 == 0 {
				holds(t, text, i%8 == 0)
				matches(t, text, short)
			}
		}
	}
}

// P7.1: words that count further lead to configs that accept just if they are the expression's.
func TestCounted(t *testing.T) {
	long := words(10)
	for _, text := range []string{
		"a{2,3}a", "(a{2,3}b?){2}", "(a{1,2}){1,3}", "((a{2}b?){2}b?){2}", "(a{2,}b?){2,}", "((a{2})+){2,}b", "(a{3}|b{2,4}){2,3}", "((a|b{2}){3})*", "(((a{1,2}b?){1,2}b?){1,2}a?){1,2}", "(a*b){3,4}", "([ab]{2}){3,}", "((a?b){2,3}){2}a{0,2}",
	} {
		holds(t, text, true)
		matches(t, text, long)
	}
	for _, text := range []string{nested, "((((a{2}b?){2}){3,}a?){3})*", "a{40}(b{20}a){3}"} {
		holds(t, text, true)
	}
}

// P7.1, P7.3: bounds of any size: the configs at both ends of the counts.
func TestGreatest(t *testing.T) {
	a := auto(t, "((a{2147483647}b?){2147483646,}){3,2147483647}")
	c := at(1, bound, bound-1, bound)
	if !Right(a, c) || !Accepts(a, c) || Order(c, at(1, bound, bound-1, bound-1)) != 1 {
		t.Error(c)
	}
	if l := Step(a, c, 'a'); !slices.Equal(l, list(at(1, bound, bound-1, 1))) {
		t.Error(l)
	}
	if l := Step(a, at(1, bound-1, bound-1, bound), 'a'); !slices.Equal(l, list(at(1, bound-1, bound-1, 1), at(1, bound, 1, 1))) {
		t.Error(l)
	}
	if l := Step(a, at(2, bound-1, bound-2), 'a'); !slices.Equal(l, list(at(1, bound-1, bound-1, 1))) {
		t.Error(l)
	}
	for _, wrong := range spoilt(a, c) {
		none(t, "the greatest", a, wrong)
	}
}

// P7.1: as many positions, and moves, as may be: each config is told once, rising.
func TestMost(t *testing.T) {
	text := strings.Repeat("a?", api.MaxPlaces)
	for range api.MaxScopes {
		text = "((" + text + "){0,2})*"
	}
	a := auto(t, text)
	if l := Begin(a, 'a'); len(l) != api.MaxPlaces || l[39] != at(40, 1, 1, 1, 1) {
		t.Error(l)
	}
	// To each position: with each scope begun once more; and, by the stars, with all of them begun anew.
	var want []api.Config
	for position := 1; position <= api.MaxPlaces; position++ {
		want = append(want, at(position, 1, 1, 1, 1), at(position, 1, 1, 1, 2), at(position, 1, 1, 2, 1), at(position, 1, 2, 1, 1), at(position, 2, 1, 1, 1))
	}
	if l := Step(a, at(7, 1, 1, 1, 1), 'a'); !slices.Equal(l, want) {
		t.Error(l)
	}
	// At the greatest counts only the stars begin anew, of each number of scopes; those behind may be come to with all counts as they are.
	want = nil
	for position := 1; position <= api.MaxPlaces; position++ {
		want = append(want, at(position, 1, 1, 1, 1), at(position, 2, 1, 1, 1), at(position, 2, 2, 1, 1), at(position, 2, 2, 2, 1))
		if position > 7 {
			want = append(want, at(position, 2, 2, 2, 2))
		}
	}
	if l := Step(a, at(7, 2, 2, 2, 2), 'a'); !slices.Equal(l, want) {
		t.Error(l)
	}
}

// R1: the automaton that layer 6 answers beside an error has no position.
func TestNoAuto(t *testing.T) {
	a, e := moves.Make(api.Node{Kind: 9})
	if e != api.ErrArg || len(Begin(a, 'a')) > 0 {
		t.Error(e, Begin(a, 'a'))
	}
	for _, c := range []api.Config{at(0), at(1), at(-1), at(1, 1), at(0, 0, 0, 0, 1)} {
		none(t, "no automaton", a, c)
	}
}

// R5, and LANGUAGE's rule 7: automata are left as they are; what is answered is new memory.
func TestLeftAlone(t *testing.T) {
	for _, text := range []string{"a", "ab|[ab]c", "(a{2}b?){3}", "(a?b?){2}*", nested} {
		a, like := auto(t, text), auto(t, text)
		for _, c := range append(rights(a), at(0), at(9, 9)) {
			for _, b := range []byte("abc") {
				for _, tell := range []func() []api.Config{func() []api.Config { return Begin(a, b) }, func() []api.Config { return Step(a, c, b) }} {
					l, want := tell(), tell()
					clear(l[:cap(l)])
					if !slices.Equal(tell(), want) {
						t.Errorf("%q: memory is shared", text)
					}
				}
			}
			for _, m := range anyMoves(a) {
				May(a, c, m)
			}
		}
		if !reflect.DeepEqual(a, like) {
			t.Errorf("%q: the automaton is changed", text)
		}
	}
}
