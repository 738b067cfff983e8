package stream

import (
	"reflect"
	"slices"
	"strings"
	"testing"

	"ostinato/api"
	"ostinato/config"
	"ostinato/moves"
	"ostinato/naive"
	"ostinato/place"
	"ostinato/syntax"
)

const bound = api.MaxBound

// nested has four scopes around a, the first three of them around b, two around c, one around d, none around e.
const nested = "((((a{2,3}b?){2}c){3,}d?){1,4}e)*"

// auto is a text's automaton; in the text a ~ stands for a class of no byte.
func auto(t testing.TB, text string) moves.Auto {
	t.Helper()
	n, at, e := syntax.Parse(strings.ReplaceAll(text, "~", `[^\x00-\xff]`))
	if e != api.OK {
		t.Fatal(text, at, e)
	}
	a, e := moves.Make(n)
	if e != api.OK {
		t.Fatal(text, e)
	}
	return a
}

// of is a matcher of a text's automaton.
func of(t testing.TB, text string) *Matcher {
	t.Helper()
	return New(auto(t, text))
}

// fed is a matcher behind a word more.
func fed(m *Matcher, word string) *Matcher {
	m.Feed([]byte(word))
	return m
}

// at is a config of a position and of counts.
func at(position int, counts ...int64) api.Config {
	c := api.Config{At: position}
	copy(c.Count[:], counts)
	return c
}

func list(l ...api.Config) []api.Config {
	return l
}

// as is a word of so many a.
func as(times int) string {
	return strings.Repeat("a", times)
}

// isBehind fails, if a matcher tells other configs, or tells them otherwise.
func isBehind(t *testing.T, name string, m *Matcher, want ...api.Config) {
	t.Helper()
	if l := m.Behind(); !slices.Equal(l, want) {
		t.Errorf("%s: behind are %v, not %v", name, l, want)
	}
}

// greatest is the greatest count of a scope.
func greatest(s place.Scope) int64 {
	if s.High == -1 {
		return s.Low
	}
	return s.High
}

// sound fails, if a matcher keeps what it shouldn't: a set that has no count, or more than its scope's greatest one; counts where there is no scope; a set that no place has, though none is empty.
func sound(t *testing.T, name string, m *Matcher) {
	t.Helper()
	for at, places := range m.now.within {
		around := m.auto.Map.Around[at]
		if m.now.reached[at] && len(around) > 0 || len(places) > 0 && len(around) == 0 || len(places) > 1 && len(around) == 1 {
			t.Errorf("%s: of %d, with %d scopes, reached %v and %d sets are kept", name, at, len(around), m.now.reached[at], len(places))
		}
		for inner, set := range places {
			s := m.auto.Map.Scopes[around[0]]
			if size := m.now.sets[set].Len(); size < 1 || int64(size) > greatest(s) {
				t.Errorf("%s: %d counts of %v", name, size, s)
			}
			if c := with(at, inner, 1); inner[0] != 0 || !config.Right(m.auto, c) {
				t.Errorf("%s: %v of %d are kept", name, inner, at)
			}
		}
	}
}

// same fails, if a matcher behind a word tells anything other than layer 8 does.
func same(t *testing.T, text string, m *Matcher, word string) {
	t.Helper()
	want := naive.Behind(m.auto, []byte(word))
	if l := m.Behind(); !slices.Equal(l, want) {
		t.Errorf("%q: behind %q %v, not %v", text, word, l, want)
	}
	if is := naive.Match(m.auto, []byte(word)); m.Accepts() != is {
		t.Errorf("%q: %q is matched: %v", text, word, !is)
	}
	if dead := word != "" && len(want) == 0; m.Dead() != dead {
		t.Errorf("%q: %q is dead: %v", text, word, !dead)
	}
	if m.Taken() != len(word) {
		t.Errorf("%q: of %q %d are taken", text, word, m.Taken())
	}
	sound(t, text+", "+word, m)
}

// P10.1: one that has taken nothing; the empty word is matched, or isn't.
func TestNothingTaken(t *testing.T) {
	for text, empty := range map[string]bool{
		"": true, "~": false, "~?": true, "~*": true, "~{2}": false, "a": false, "a?": true, "a*": true, "a+": false, "ab": false, "a?b?": true, "a|": true, "a{2}": false, "a{0}": true, "a{0,9}": true, "a{0,2147483647}": true, "a{2147483647,}": false, "(a?){2,3}": true, "(a{2}|b?){2,3}": true, "(a{2,3}b?){2}": false, "((a{2}b){3}){4,}": false, "((a{0,2}b?){3}){4,}": true, nested: true,
	} {
		for name, m := range map[string]*Matcher{"new": of(t, text), "clone": of(t, text).Clone(), "fed nothing": fed(of(t, text), "")} {
			if m.Accepts() != empty || m.Dead() || m.Taken() != 0 || len(m.Behind()) > 0 {
				t.Errorf("%q, %s: %v, %v, %d, %v", text, name, m.Accepts(), m.Dead(), m.Taken(), m.Behind())
			}
		}
	}
}

// P10.1: the configs behind words, and whether these are matched: of positions without a scope around them, with one, with more.
func TestBehind(t *testing.T) {
	for _, c := range []struct {
		text, word string
		accepts    bool
		want       []api.Config
	}{
		// No scope.
		{"a", "a", true, list(at(1))}, {"ab", "a", false, list(at(1))}, {"ab", "ab", true, list(at(2))}, {"a*", as(50), true, list(at(1))}, {"a?a?a", "a", true, list(at(1), at(2), at(3))}, {"a?a?a", "aa", true, list(at(2), at(3))}, {"(a|ab)(c|bcd)*", "ab", true, list(at(3), at(5))}, {"(a|ab)(c|bcd)*", "abc", true, list(at(4), at(6))}, {"(a|b)*a(a|b)", "aba", false, list(at(1), at(3))}, {"(a|b)*a(a|b)", "baa", true, list(at(1), at(3), at(4))}, {"a|~", "a", true, list(at(1))}, {"[^a-c]", "d", true, list(at(1))}, {".", "\x00", true, list(at(1))}, {".", "\xff", true, list(at(1))}, {`\xc3\xa9`, "\u00e9", true, list(at(2))},
		// One, that ends.
		{"a{2,3}", "a", false, list(at(1, 1))}, {"a{2,3}", "aa", true, list(at(1, 2))}, {"a{2,3}", "aaa", true, list(at(1, 3))}, {"a{2}a", "aa", false, list(at(1, 2))}, {"a{2,3}a", "aaa", true, list(at(1, 3), at(2))}, {"a{2}b{3}", "aabb", false, list(at(2, 2))}, {"a{1,3}b?", "aab", true, list(at(2))}, {"(a?){3,5}", "aa", true, list(at(1, 2))}, {"(a|b){2,3}", "ab", true, list(at(2, 2))}, {"(ac|bd){2,3}", "acb", false, list(at(3, 2))}, {"(ac|bd){2,3}", "acbd", true, list(at(4, 2))},
		// One, that doesn't.
		{"a{2,}", "a", false, list(at(1, 1))}, {"a{2,}", "aa", true, list(at(1, 2))}, {"a{2,}", "aaa", true, list(at(1, 2))}, {"a{2,}", as(50), true, list(at(1, 2))}, {"a{2147483647,}", as(50), false, list(at(1, 50))}, {"(ab){3,}", "ababa", false, list(at(1, 3))}, {"(ab){3,}", "abababa", false, list(at(1, 3))}, {"(ab){3,}", "abababab", true, list(at(2, 3))},
		// Several counts of one.
		{"(a{1,3})*", "a", true, list(at(1, 1))}, {"(a{1,3})*", "aa", true, list(at(1, 1), at(1, 2))}, {"(a{1,3})*", "aaaa", true, list(at(1, 1), at(1, 2), at(1, 3))}, {".*a.{3}", "abaa", true, list(at(1), at(2), at(3, 1), at(3, 3))}, {".*a.{3}", "abaab", false, list(at(1), at(3, 1), at(3, 2))}, {"(a{2,3}b?)*", "aaa", true, list(at(1, 1), at(1, 3))}, {"(a*b){2,}", "ba", false, list(at(1, 2))},
		// Two.
		{"(a{2,3}b?){2}", "aaa", false, list(at(1, 1, 3), at(1, 2, 1))}, {"(a{2,3}b?){2}", "aaba", false, list(at(1, 2, 1))}, {"(a{2,3}b?){2}", "aabaa", true, list(at(1, 2, 2))}, {"(a{2,3}b?){2}", "aab", false, list(at(2, 1))}, {"(a{2,3}b?){2}", "aaaab", true, list(at(2, 2))}, {"(a{2,}b){3,}", "aaabaaaba", false, list(at(1, 3, 1))}, {"(a{2,}b){3,}", "aaabaaabaabaaab", true, list(at(2, 3))}, {"(a{1,2}){1,3}", "aaa", true, list(at(1, 2, 1), at(1, 2, 2), at(1, 3, 1))}, {"(a{1,2}){1,3}", "aaaaaa", true, list(at(1, 3, 2))}, {"a{2}{3,}", as(9), false, list(at(1, 3, 1))}, {"a{2,}{3}", as(6), true, list(at(1, 1, 2), at(1, 2, 1), at(1, 2, 2), at(1, 3, 1), at(1, 3, 2))}, {"(b?a{2}){3}", "aabaa", false, list(at(2, 2, 2))}, {"(ba{2}){3}", "baab", false, list(at(1, 2))},
		// More.
		{"a{1,2}{1,2}{1,2}", "aa", true, list(at(1, 1, 1, 2), at(1, 1, 2, 1), at(1, 2, 1, 1))}, {"a{1,2}{1,2}{1,2}{1,2}", as(15), true, list(at(1, 2, 2, 2, 1), at(1, 2, 2, 2, 2))}, {"((a{2}b?){2}b?){2}", "aabaab", false, list(at(2, 1, 2), at(3, 1))},
		{nested, "a", false, list(at(1, 1, 1, 1, 1))}, {nested, "aaaa", false, list(at(1, 1, 1, 2, 1), at(1, 1, 1, 2, 2))}, {nested, "aabaac", false, list(at(3, 1, 1))}, {nested, "aabaaab", false, list(at(2, 1, 1, 2))}, {nested, strings.Repeat("aaaac", 3) + "d", false, list(at(4, 1))}, {nested, strings.Repeat("aaaac", 3) + "a", false, list(at(1, 1, 3, 1, 1), at(1, 2, 1, 1, 1))}, {nested, strings.Repeat("aaaac", 4) + "de", true, list(at(5))}, {nested, strings.Repeat("aaaac", 3) + "dea", false, list(at(1, 1, 1, 1, 1))},
		// By At first, then by the outermost count.
		{"((b|a)(c|d)){2,3}(a|b)", "acbda", true, list(at(2, 3), at(5))}, {"a{1,3}{1,3}", "aaa", true, list(at(1, 1, 3), at(1, 2, 1), at(1, 2, 2), at(1, 3, 1))}, {"a{2}b|a*b?", "aab", true, list(at(2), at(4))},
	} {
		m := fed(of(t, c.text), c.word)
		isBehind(t, c.text+", "+c.word, m, c.want...)
		if m.Accepts() != c.accepts || m.Dead() || m.Taken() != len(c.word) {
			t.Errorf("%q: %q is matched: %v; dead: %v; %d are taken", c.text, c.word, m.Accepts(), m.Dead(), m.Taken())
		}
		same(t, c.text, m, c.word)
	}
}

// P10.1: Dead, and whatever comes then, which is taken all the same.
func TestDead(t *testing.T) {
	for _, c := range []struct{ text, alive, dead string }{
		{"", "", "a"}, {"~", "", "a"}, {"a~", "", "a"}, {"~*", "", "\x00"}, {"a", "", "b"}, {"a", "a", "a"}, {"a*", "aaa", "b"}, {"a*", "", "b"}, {"ab", "a", "a"}, {"ab", "ab", "a"}, {"a|b?c", "b", "b"}, {"a{2}", "aa", "a"}, {"a{2,3}", "aaa", "a"}, {"a{2,3}", "aa", "b"}, {"a{2,}", as(30), "b"}, {"a{2,3}b", "a", "b"}, {"a{2,3}b", "aaa", "a"}, {"a{2,3}b", "aab", "b"}, {"a{2147483647}", as(300), "b"}, {"a{2147483647}b", as(300), "b"}, {"(a{1,2}){1,3}", as(6), "a"}, {"(a{2,3}b?){2}c", "aaaaaa", "a"}, {"(a{2,3}b?){2}c", "aab", "b"}, {"(a{2,3}b?){2}c", "aaaac", "c"}, {"(a{2,3}b?){2}c", "aabaab", "a"}, {"a{2}{3}", as(6), "a"}, {"a{2}{3,}", as(60), "b"}, {nested, "aaaaca", "c"}, {nested, strings.Repeat("aaaac", 3) + "d", "d"}, {"[^a]", "", "a"},
	} {
		m := of(t, c.text)
		for i := range len(c.alive) {
			if m.Dead() {
				t.Errorf("%q: dead behind %q", c.text, c.alive[:i])
			}
			m.Feed([]byte{c.alive[i]})
		}
		if m.Dead() {
			t.Errorf("%q: dead behind %q", c.text, c.alive)
		}
		m.Feed([]byte(c.dead))
		for i, longer := range []string{"", c.dead, c.alive, c.alive, "", as(7), "\x00\xff", c.alive + c.dead, strings.Repeat("aaaac", 9)} {
			taken := m.Taken()
			m.Feed([]byte(longer))
			if !m.Dead() || m.Accepts() || len(m.Behind()) > 0 || m.Taken() != taken+len(longer) || i == 0 && taken != len(c.alive)+len(c.dead) {
				t.Errorf("%q, behind %q and %q: dead %v, matched %v, behind %v, %d taken", c.text, c.alive+c.dead, longer, m.Dead(), m.Accepts(), m.Behind(), m.Taken())
			}
			if d := m.Clone(); !d.Dead() || d.Taken() != m.Taken() {
				t.Errorf("%q: the clone of a dead one: %v, %d", c.text, d.Dead(), d.Taken())
			}
		}
	}
}

// P10.1, R1: the automaton that layer 6 answers beside an error has no position, and no word; a matcher that New hasn't made has no automaton.
func TestNoAuto(t *testing.T) {
	a, e := moves.Make(api.Node{Kind: 9})
	if e != api.ErrArg {
		t.Error(e)
	}
	for _, m := range []*Matcher{New(a), {}, New(a).Clone(), new(Matcher).Clone()} {
		if m.Accepts() || m.Dead() || m.Taken() != 0 || len(m.Behind()) > 0 {
			t.Errorf("nothing taken: %v, %v, %d, %v", m.Accepts(), m.Dead(), m.Taken(), m.Behind())
		}
		if m.Feed([]byte("a"), []byte("bc")); m.Accepts() || !m.Dead() || m.Taken() != 3 || len(m.Behind()) > 0 {
			t.Errorf("three taken: %v, %v, %d, %v", m.Accepts(), m.Dead(), m.Taken(), m.Behind())
		}
	}
}

// P10.1: where two moves reach a position, the counts of one scope come together.
func TestTogether(t *testing.T) {
	for _, c := range []struct {
		text, word string
		want       []api.Config
	}{
		// As they are, from two positions.
		{"((a|[ab])c){2,3}", "acac", list(at(3, 2))}, {"(.a?c){2,}", "xcac", list(at(3, 2))}, {"(.a?c){2,}", "xcaac", list(at(3, 2))}, {"(a?[ab]c?){3}", "aa", list(at(1, 2), at(2, 1), at(2, 2))},
		// Begun once more, from two positions, and from one of them kept.
		{"(a?[ab]){5}", "aaa", list(at(1, 2), at(1, 3), at(2, 2), at(2, 3))}, {"(a?[ab]){2,3}", "aaaa", list(at(1, 3), at(2, 2), at(2, 3))}, {"(a?[ab]){3,}", "aaaaa", list(at(1, 3), at(2, 3))}, {"((a|ab)b?){4}", "abab", list(at(3, 2), at(4, 2))}, {"(aa|a){4}", "aaa", list(at(1, 2), at(1, 3), at(2, 2), at(3, 2), at(3, 3))},
		// Those of several inner counts come together.
		{"(a{1,3}b){2}", "aab", list(at(2, 1))}, {"(a{1,3}b?){3}", "aaab", list(at(2, 1), at(2, 2), at(2, 3))}, {"(a{1,3}b?){3}", "aaaba", list(at(1, 2, 1), at(1, 3, 1))}, {"(a{2}{1,2}b?){2,}", "aaaab", list(at(2, 1), at(2, 2))}, {"((a{2}|b){2}c?){2,3}", "bbaab", list(at(2, 2, 2))},
		// From outside of all scopes, by two ways.
		{"a?b?c{2}", "c", list(at(3, 1))}, {"(a|[ab])c{2,3}", "ac", list(at(3, 1))}, {"(a|[ab])(c{2,3}d?){2}", "ac", list(at(3, 1, 1))}, {"a{2}b{3}|a{1,2}b", "aab", list(at(2, 1), at(4))},
	} {
		m := fed(of(t, c.text), c.word)
		isBehind(t, c.text+", "+c.word, m, c.want...)
		same(t, c.text, m, c.word)
	}
}

// P10.1: a set is entered anew while it has counts.
func TestEnteredAnew(t *testing.T) {
	for _, c := range []struct {
		text, word string
		want       []api.Config
	}{
		// From outside, byte by byte, or now and then; where 1 is there already; where the greatest count goes at the same time, or stays.
		{".*a.{3}", "aaa", list(at(1), at(2), at(3, 1), at(3, 2))}, {".*a.{3}", "aaaaa", list(at(1), at(2), at(3, 1), at(3, 2), at(3, 3))}, {".*a.{3}", "abbb", list(at(1), at(3, 3))}, {".*a.{3}", "abbab", list(at(1), at(3, 1))}, {".*a.{3,}", "ababb", list(at(1), at(3, 2), at(3, 3))}, {".*a.{3,}", "abbbbbab", list(at(1), at(3, 1), at(3, 3))}, {".*a{2,9}", "aaa", list(at(1), at(2, 1), at(2, 2), at(2, 3))}, {".*a{2,9}", "aab", list(at(1))}, {".*(ab?){2,9}", "abab", list(at(1), at(3, 1), at(3, 2))},
		// Where another position, that isn't entered, has the same counts.
		{".*a(a?b|a.){2,9}", "abab", list(at(1), at(4, 1), at(4, 2), at(6, 2))}, {".*a(a?b|a.){2,}", "ababab", list(at(1), at(4, 1), at(4, 2), at(6, 2))},
		// By what it leaves itself.
		{"(a{2})*", "aaa", list(at(1, 1))}, {"(a{2,3})*", "aaa", list(at(1, 1), at(1, 3))}, {"(a{2,3})*", "aaaaa", list(at(1, 1), at(1, 2), at(1, 3))}, {"(a{3,})*", "aaaaa", list(at(1, 1), at(1, 2), at(1, 3))}, {"(a{3,})*", "aaaa", list(at(1, 1), at(1, 3))}, {"(a{2,4}b?)*", "aaba", list(at(1, 1))},
		// Within another scope, and the outer one.
		{"(a{2,3}){2,3}", "aaaa", list(at(1, 2, 1), at(1, 2, 2))}, {"(a{2,3}){2,3}", "aaaaaa", list(at(1, 2, 3), at(1, 3, 1), at(1, 3, 2))}, {".*(a{2}b?){3}", "aabaa", list(at(1), at(2, 1, 1), at(2, 1, 2), at(2, 2, 2))}, {"((a{2}b?){2})*", "aaaaa", list(at(1, 1, 1))}, {"((a{1,2}b?){1,2})*", "aab", list(at(2, 1), at(2, 2))},
	} {
		m := fed(of(t, c.text), c.word)
		isBehind(t, c.text+", "+c.word, m, c.want...)
		same(t, c.text, m, c.word)
	}
}

// P10.2: a set has never more counts than its scope's greatest one, however many come.
func TestNeverLonger(t *testing.T) {
	for text, want := range map[string]int{
		".*a{1,5}": 5 + 1, ".*a{5}": 5 + 1, ".*a{5,}": 5 + 1, "(a{2,5})*": 5, "(a{5,})*": 5, ".*(a|[ab]){2,7}": 2*7 + 1, ".*(a?a?a){4}": 3*4 + 1, ".*(a{2}a?){4,}": 2*4 + 4 + 1, ".*a{3}{3}{3}": 27 + 1, ".*a{3,}{2,4}{5,}": 3*4*5 + 1, ".*a{1,1000}": 1000 + 1,
	} {
		m := of(t, text)
		for range 1100 {
			m.Feed([]byte("a"))
			sound(t, text, m)
		}
		if l := m.Behind(); len(l) != want {
			t.Errorf("%q: %d are behind, not %d", text, len(l), want)
		}
	}
}

// P10.1, P2: of a byte that is repeated so often a word is matched just if its length is between the bounds.
func TestBetween(t *testing.T) {
	const most = 70
	for _, text := range []string{"a{%}", "(a|b){%}", "[ab]{%}c?", "(ab?){%}", "b?(c|a{%})d?"} {
		for low := range int64(most) {
			for _, high := range []int64{low, low + 1, low + 7, 2*low + 1, bound - 1, bound, -1} {
				if high == 0 {
					continue
				}
				a := auto(t, strings.ReplaceAll(text, "%", bounds(low, high)))
				m := New(a)
				for taken := range int64(most) {
					if is := taken >= low && (high == -1 || taken <= high); m.Accepts() != (is || taken == 0 && a.Empty) {
						t.Fatalf("%q, %d to %d: %d are matched: %v", text, low, high, taken, !is)
					}
					if dead := high != -1 && taken > high; m.Dead() != dead {
						t.Fatalf("%q, %d to %d: %d are dead: %v", text, low, high, taken, !dead)
					}
					m.Feed([]byte("a"))
				}
			}
		}
	}
}

// bounds are bounds as a text has them between { and }.
func bounds(low, high int64) string {
	text := digits(low) + ","
	if high != -1 {
		text += digits(high)
	}
	return text
}

func digits(n int64) string {
	if n < 10 {
		return string(rune('0' + n))
	}
	return digits(n/10) + string(rune('0'+n%10))
}

// P10.1: long words of one byte, at great bounds.
func TestLong(t *testing.T) {
	const many = 100000
	for _, c := range []struct {
		text    string
		accepts bool
		want    []api.Config
	}{
		{"a{100000}", true, list(at(1, many))}, {"a{99999}", false, nil}, {"a{100001}", false, list(at(1, many))}, {"a{99999,}", true, list(at(1, many-1))}, {"a{100000,}", true, list(at(1, many))}, {"a{100001,}", false, list(at(1, many))}, {"a{100000,2147483647}", true, list(at(1, many))}, {"a{100001,2147483647}", false, list(at(1, many))}, {"a{2,1000000}", true, list(at(1, many))}, {"a{2147483647}", false, list(at(1, many))}, {"a{2147483647,}", false, list(at(1, many))}, {"a{99999}a", true, list(at(2))}, {"a{5,2147483647}a", true, list(at(1, many), at(2))}, {"a{1000}{100}", true, list(at(1, 100, 1000))}, {"a{1000}{101}", false, list(at(1, 100, 1000))}, {"a{1000}{99}", false, nil}, {"a{2}{2147483647}", false, list(at(1, many/2, 2))}, {"a{2}{50000,2147483647}", true, list(at(1, many/2, 2))}, {"a{2}{3,}", true, list(at(1, 3, 2))}, {"(a{2147483646}b?){2147483647}", false, list(at(1, 1, many))}, {"a{10}{10}{10}{100}", true, list(at(1, 100, 10, 10, 10))},
	} {
		m := fed(of(t, c.text), as(many))
		isBehind(t, c.text, m, c.want...)
		if m.Accepts() != c.accepts || m.Dead() != (len(c.want) == 0) || m.Taken() != many {
			t.Errorf("%q: %v, %v, %d", c.text, m.Accepts(), m.Dead(), m.Taken())
		}
	}
}

// P10.2: chunks that are empty, and no chunk at all; all of them in one Feed, or each in its own.
func TestChunks(t *testing.T) {
	chunks := func(l ...string) [][]byte {
		var all [][]byte
		for _, s := range l {
			all = append(all, []byte(s))
		}
		return all
	}
	const text = "(a{2,3}b?){2}c"
	for _, l := range [][][]byte{
		chunks("aaabaac"), chunks("aaabaa", "c"), chunks("a", "aabaac"), chunks("a", "a", "a", "b", "a", "a", "c"), chunks("", "aaa", "", "", "baac", ""), {nil, []byte("aaab"), {}, []byte("aac"), nil}, chunks("aaab", "aac"),
	} {
		together, single := of(t, text), of(t, text)
		together.Feed(l...)
		for _, chunk := range l {
			single.Feed(chunk)
			single.Feed()
		}
		for _, m := range []*Matcher{together, single} {
			isBehind(t, "cut", m, at(3))
			if !m.Accepts() || m.Dead() || m.Taken() != 7 {
				t.Errorf("%q: %v, %v, %d", l, m.Accepts(), m.Dead(), m.Taken())
			}
		}
	}
	m := of(t, "a{2}")
	for range 3 {
		m.Feed()
		m.Feed(nil)
		m.Feed(nil, []byte{}, nil)
		m.Feed([][]byte{}...)
		m.Feed([][]byte(nil)...)
	}
	if m.Taken() != 0 || m.Dead() || m.Accepts() {
		t.Error("nothing is taken", m.Taken(), m.Dead())
	}
	m.Feed(nil, []byte("a"), nil)
	m.Feed()
	m.Feed(nil)
	if isBehind(t, "one", m, at(1, 1)); m.Taken() != 1 || m.Dead() {
		t.Error("one is taken", m.Taken(), m.Dead())
	}
}

// P10.1: a clone goes on by itself, on both sides.
func TestClone(t *testing.T) {
	for _, text := range []string{"(a|b)*a(a|b)", "a{2,5}b?a*", "a{3,}|b", ".*a.{3}", "(a{2,3}b?){2}c", "(a?[ab]){2,5}", "a{1,2}{1,2}{1,2}{1,2}", "(a{2,}b?){2,}", "a{2}", nested} {
		for _, ahead := range []string{"", "a", "aa", "aab", "aaba", "b"} {
			m := fed(of(t, text), ahead)
			c := m.Clone()
			same(t, text, c, ahead)
			same(t, text, fed(m, "aa"), ahead+"aa")
			same(t, text, c, ahead)
			d := m.Clone()
			same(t, text, fed(c, "bab"), ahead+"bab")
			same(t, text, m, ahead+"aa")
			same(t, text, fed(d, "aaa"), ahead+"aaaaa")
			same(t, text, m, ahead+"aa")
			same(t, text, c, ahead+"bab")
			e := d.Clone().Clone()
			same(t, text, fed(d, "b"), ahead+"aaaaab")
			same(t, text, fed(e, "a"), ahead+"aaaaaa")
			same(t, text, fed(m, "ba"), ahead+"aaba")
		}
	}
}

// R7: matchers of one automaton do not hang on one another.
func TestOneAuto(t *testing.T) {
	a := auto(t, "(a{2,3}b?){2}c")
	m, n := New(a), New(a)
	fed(m, "aaab")
	if n.Taken() != 0 || n.Dead() {
		t.Error(n.Taken(), n.Dead())
	}
	fed(n, "aac")
	isBehind(t, "the other", m, at(2, 1))
	if !n.Dead() || m.Dead() {
		t.Error(n.Dead(), m.Dead())
	}
}

// R5, and LANGUAGE's rule 7: automata and chunks are left as they are, their spare room too, and aren't kept; what is answered is new memory.
func TestLeftAlone(t *testing.T) {
	for _, text := range []string{"", "a", "ab|[ab]c", "(a{2}b?){3}", "(a?b?){2,}*", ".*a.{3}", nested} {
		a, like := auto(t, text), auto(t, text)
		m, handed := New(a), []byte("aabaa, and spare")
		chunks := append(make([][]byte, 0, 4), handed[:2], handed[2:3], handed[3:5])
		m.Feed(chunks...)
		if string(handed) != "aabaa, and spare" || len(chunks) != 3 || chunks[:4][3] != nil {
			t.Errorf("%q: the chunks are changed to %q", text, handed)
		}
		clear(handed)
		clear(chunks)
		if !reflect.DeepEqual(a, like) {
			t.Errorf("%q: the automaton is changed", text)
		}
		fresh := New(a)
		spoil(&a)
		for word, l := "aabaa", []*Matcher{m.Clone(), fed(fresh, "aabaa")}; len(word) < 9; word += "b" {
			for _, c := range l {
				if !slices.Equal(c.Behind(), naive.Behind(like, []byte(word))) || c.Accepts() != naive.Match(like, []byte(word)) {
					t.Errorf("%q: behind %q %v", text, word, c.Behind())
				}
				clear(c.Behind())
				c.Feed([]byte("b"))
			}
		}
		l := m.Behind()
		want := slices.Clone(l)
		clear(l[:cap(l)])
		if !slices.Equal(m.Behind(), want) {
			t.Errorf("%q: what was told is written over, and told again: %v", text, m.Behind())
		}
	}
}

// spoil writes over all of an automaton.
func spoil(a *moves.Auto) {
	clear(a.Map.Sets)
	clear(a.Map.Scopes)
	for _, l := range a.Map.Around {
		for i := range l {
			l[i] = 77
		}
	}
	clear(a.Map.Around)
	for i := range a.First {
		a.First[i] = 99
	}
	for _, l := range a.Moves {
		for i := range l {
			l[i] = moves.Move{To: 88, Keep: 3}
		}
	}
	clear(a.Moves)
	clear(a.Last)
	a.Empty = !a.Empty
}

// The chapter's example, and P6: what a byte does to counts of one scope hangs neither on how many they are nor on the bound, also where positions have them in common.
func TestOneStep(t *testing.T) {
	for _, c := range []struct{ text, word string }{
		{"a{2,1000000}", "a"}, {"a{2,}", "a"}, {".*a.{1000000}", "ab"}, {".*a.{100000}", "abb"}, {".*a.{3,}", "abb"}, {".*(a|[ab]){1000000}", "ab"}, {".*a(.|[ab]|[a-c]){1000000}", "ab"}, {"(a{2}b){1000000}", "aab"}, {".*(ab){2,1000000}", "ab"}, {".*((ab){2,3}c){1000000}", "ababc"},
	} {
		per := [2]float64{}
		for i, times := range []int{20, 20000} {
			m := of(t, c.text)
			for range times {
				m.Feed([]byte(c.word))
			}
			per[i] = testing.AllocsPerRun(20, func() { m.Feed([]byte(c.word)) })
		}
		if per[1] > per[0]+5 {
			t.Errorf("%q: memory is asked for %v times behind a few bytes, and %v times behind many", c.text, per[0], per[1])
		}
	}
}

// P6, P10.1: a hundred thousand counts, and a million bytes; one by one these would not be over today.
func TestManyCounts(t *testing.T) {
	const many, times = 100000, 500000
	m := of(t, ".*a.{100000}")
	chunk := []byte("ab")
	for range times {
		m.Feed(chunk)
	}
	if m.Accepts() || m.Dead() || m.Taken() != 2*times {
		t.Error("even:", m.Accepts(), m.Taken())
	}
	l := m.Behind()
	if len(l) != 1+many/2 || l[0] != at(1) || l[1] != at(3, 1) || l[2] != at(3, 3) || l[many/2] != at(3, many-1) {
		t.Error(len(l), l[:3])
	}
	if m.Feed([]byte("b")); !m.Accepts() {
		t.Error("odd")
	}
}
