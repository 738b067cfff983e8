package naive

import (
	"reflect"
	"slices"
	"strings"
	"testing"

	"ostinato/api"
	"ostinato/config"
	"ostinato/moves"
	"ostinato/syntax"
)

const bound = api.MaxBound

// nested has four scopes around a, the first three of them around b, two around c, one around d, none around e.
const nested = "((((a{2,3}b?){2}c){3,}d?){1,4}e)*"

// read is a text's tree; in the text a ~ stands for a class of no byte.
func read(t *testing.T, text string) api.Node {
	t.Helper()
	n, at, e := syntax.Parse(strings.ReplaceAll(text, "~", `[^\x00-\xff]`))
	if e != api.OK {
		t.Fatal(text, at, e)
	}
	return n
}

// auto is a text's automaton.
func auto(t *testing.T, text string) moves.Auto {
	t.Helper()
	a, e := moves.Make(read(t, text))
	if e != api.OK {
		t.Fatal(text, e)
	}
	return a
}

// at is a config of a position and of counts.
func at(position int, counts ...int64) api.Config {
	c := api.Config{At: position}
	copy(c.Count[:], counts)
	return c
}

func list(l ...api.Config) []api.Config {
	return l
}

// as is a word of so many a.
func as(times int) string {
	return strings.Repeat("a", times)
}

// P8.1: the configs behind words of each kind of tree.
func TestBehind(t *testing.T) {
	const either, rows = "a|[ab]|b{2}", "(a|ab)(c|bcd)*"
	for _, c := range []struct {
		text, word string
		want       []api.Config
	}{
		// Nothing, and no word.
		{"", "", nil}, {"", "a", nil}, {"~", "", nil}, {"~", "a", nil}, {"~", "aa", nil}, {"a~", "a", nil}, {"a|~", "a", list(at(1))},
		// Behind the empty word there are none, whether it is matched or not.
		{"a", "", nil}, {"a*", "", nil}, {"(a?b?){2,3}", "", nil}, {"a{2}", "", nil}, {"a{0,9}", "", nil}, {nested, "", nil},
		// A byte of some.
		{"a", "a", list(at(1))}, {"a", "b", nil}, {"[a-c]", "b", list(at(1))}, {"[^a-c]", "b", nil}, {"[^a-c]", "d", list(at(1))}, {".", "\x00", list(at(1))}, {".", "\xff", list(at(1))}, {`\x00`, "\x00", list(at(1))}, {`\xff`, "\xff", list(at(1))}, {`\xc3`, "\u00e9", nil}, {`\xc3\xa9`, "\u00e9", list(at(2))},
		// In a row.
		{"ab", "a", list(at(1))}, {"ab", "ab", list(at(2))}, {"ab", "b", nil}, {"aab", "aa", list(at(2))}, {"a?b?c", "b", list(at(2))}, {"a?b?c", "ac", list(at(3))}, {"a?b?c", "ba", nil}, {"a?a?a", "a", list(at(1), at(2), at(3))}, {"a?a?a", "aa", list(at(2), at(3))}, {"a?a?a", "aaa", list(at(3))},
		// One of some.
		{either, "a", list(at(1), at(2))}, {either, "b", list(at(2), at(3, 1))}, {either, "bb", list(at(3, 2))}, {either, "c", nil}, {either, "ab", nil},
		{rows, "a", list(at(1), at(2))}, {rows, "ab", list(at(3), at(5))}, {rows, "ac", list(at(4))}, {rows, "abc", list(at(4), at(6))}, {rows, "abcd", list(at(7))}, {rows, "abcb", list(at(5))}, {rows, "abcc", list(at(4))}, {rows, "abcdbc", list(at(6))},
		// Repeated, and not counted.
		{"a?", "a", list(at(1))}, {"a*", "a", list(at(1))}, {"a*", as(50), list(at(1))}, {"a+", "aaa", list(at(1))}, {"(ab?)*", "a", list(at(1))}, {"(ab?)*", "ab", list(at(2))}, {"(ab?)*", "aba", list(at(1))}, {"(a|aa)*", "a", list(at(1), at(2))}, {"(a|aa)*", "aa", list(at(1), at(2), at(3))}, {"(a|aa)*", "aaa", list(at(1), at(2), at(3))},
		// Counted: up to High, or to Low, where the count stays.
		{"a{2,3}", "a", list(at(1, 1))}, {"a{2,3}", "aa", list(at(1, 2))}, {"a{2,3}", "aaa", list(at(1, 3))}, {"a{2,3}", "aaaa", nil}, {"a{2,}", "a", list(at(1, 1))}, {"a{2,}", "aa", list(at(1, 2))}, {"a{2,}", "aaa", list(at(1, 2))}, {"a{2,}", as(50), list(at(1, 2))}, {"(a?){3,5}", "aa", list(at(1, 2))}, {"a{1,3}a", "aa", list(at(1, 2), at(2))}, {"a{2}a", "aa", list(at(1, 2))}, {"a{2}b{3}", "aabb", list(at(2, 2))}, {"(a{1,3})*", "aaa", list(at(1, 1), at(1, 2), at(1, 3))},
		// Counted in what is counted.
		{"(a{2,3}b?){2}", "aaa", list(at(1, 1, 3), at(1, 2, 1))}, {"(a{2,3}b?){2}", "aaba", list(at(1, 2, 1))}, {"(a{2,3}b?){2}", "aaaab", list(at(2, 2))}, {"(a{2,3}b?){2}", "aab", list(at(2, 1))},
		{nested, "a", list(at(1, 1, 1, 1, 1))}, {nested, "aaaa", list(at(1, 1, 1, 2, 1), at(1, 1, 1, 2, 2))}, {nested, "aabaac", list(at(3, 1, 1))}, {nested, "aabaaab", list(at(2, 1, 1, 2))}, {nested, strings.Repeat("aaaac", 3), list(at(3, 1, 3))}, {nested, strings.Repeat("aaaac", 3) + "d", list(at(4, 1))}, {nested, strings.Repeat("aaaac", 3) + "a", list(at(1, 1, 3, 1, 1), at(1, 2, 1, 1, 1))}, {nested, strings.Repeat("aaaac", 3) + "dea", list(at(1, 1, 1, 1, 1))},
	} {
		if l := Behind(auto(t, c.text), []byte(c.word)); !slices.Equal(l, c.want) {
			t.Errorf("%q: behind %q %v, not %v", c.text, c.word, l, c.want)
		}
	}
}

// P8.1: words that lead nowhere, by their first byte or by a later one: neither does what goes on behind them, though it ends, or goes on, as the tree does.
func TestNowhere(t *testing.T) {
	for _, c := range []struct {
		text  string
		words []string
	}{
		{"", []string{"a", "aa", "\x00"}}, {"~", []string{"a", "ab"}}, {"a", []string{"b", "ba", "aa", "aaa", "ab", "aba", "A", "\x00", "\xff"}}, {"ab", []string{"b", "bab", "aab", "acb", "aba", "abab", "abb"}}, {"a*b", []string{"c", "cab", "aba", "abb", "aacab", as(40) + "c" + as(40) + "b"}},
		{"a{2,3}b", []string{"b", "ab", "aba", "abaab", "aaaa", "aaaab", "caab", "aacb", "aabb"}}, {"(ab){3,}", []string{"ba", "abb", "ababba", "abbababab", "aababab"}}, {"(a{1,2}){1,3}", []string{as(7), as(8), as(100), "aab", "aaba", "baa"}}, {"a{2147483647}", []string{"b", as(1000) + "b", as(1000) + "ba"}},
		{nested, []string{"b", "aac", "aabb", "aaaaca" + "c", "aabaaca" + "e", "caa", "e"}},
	} {
		a := auto(t, c.text)
		for _, word := range c.words {
			for _, longer := range []string{word, word + "a", word + "b", word + "ab", word + word} {
				if l := Behind(a, []byte(longer)); len(l) > 0 || Match(a, []byte(longer)) {
					t.Errorf("%q: behind %q %v, and matched: %v", c.text, longer, l, Match(a, []byte(longer)))
				}
				if got, want := Most(a, []byte(longer)), Most(a, []byte(word)); got != want {
					t.Errorf("%q: behind %q most are %d, and behind %q %d", c.text, word, want, longer, got)
				}
			}
		}
	}
}

// P8.1: where several ways come to the same config it is told once; all of them rising, whatever way comes first.
func TestOnce(t *testing.T) {
	const twice, deep = "(a{1,2}){1,3}", "a{1,2}{1,2}{1,2}{1,2}"
	var hundreds []api.Config
	for count := range int64(300) {
		hundreds = append(hundreds, at(1, count+1))
	}
	for _, c := range []struct {
		text, word string
		want       []api.Config
	}{
		{"(a|ab)(b?)c", "ab", list(at(3), at(4))}, {"(a|ab)(b?)c", "abc", list(at(5))}, {"(a|b|[ab])*", "abab", list(at(2), at(3))}, {"(a*)*", "aaa", list(at(1))}, {"(a*a*)*", "aa", list(at(1), at(2))}, {"(aa|aaa)*", as(12), list(at(1), at(2), at(3), at(4), at(5))},
		{twice, "a", list(at(1, 1, 1))}, {twice, "aa", list(at(1, 1, 2), at(1, 2, 1))}, {twice, "aaa", list(at(1, 2, 1), at(1, 2, 2), at(1, 3, 1))}, {twice, "aaaa", list(at(1, 2, 2), at(1, 3, 1), at(1, 3, 2))}, {twice, "aaaaa", list(at(1, 3, 1), at(1, 3, 2))}, {twice, "aaaaaa", list(at(1, 3, 2))},
		// By a+ begun once more, or by {2,}, whose count stays.
		{"a+{2,}", "aaa", list(at(1, 1), at(1, 2))}, {"a{2}+{2,}", "aaaaa", list(at(1, 1, 1), at(1, 2, 1))}, {"(a{1,2}a)*", "aaaa", list(at(1, 1), at(1, 2), at(2))}, {"(a{1,300})*", as(400), hundreds},
		{deep, "aa", list(at(1, 1, 1, 1, 2), at(1, 1, 1, 2, 1), at(1, 1, 2, 1, 1), at(1, 2, 1, 1, 1))}, {deep, as(16), list(at(1, 2, 2, 2, 2))}, {deep, as(15), list(at(1, 2, 2, 2, 1), at(1, 2, 2, 2, 2))},
		// By At first, then by the outermost count, whatever comes of which config ahead.
		{"((b|a)(c|d)){2,3}(a|b)", "acbda", list(at(2, 3), at(5))}, {"a{1,3}{1,3}", "aaa", list(at(1, 1, 3), at(1, 2, 1), at(1, 2, 2), at(1, 3, 1))}, {"(a?b){1,9}*b?", "bb", list(at(2, 1), at(2, 2), at(3))}, {"(a|b){1,9}*", "ab", list(at(2, 1), at(2, 2))},
	} {
		a := auto(t, c.text)
		for range 20 {
			if l := Behind(a, []byte(c.word)); !slices.Equal(l, c.want) {
				t.Fatalf("%q: behind %q %v, not %v", c.text, c.word, l, c.want)
			}
		}
	}
}

// P8.1: whether a word is matched, the empty one among them.
func TestMatch(t *testing.T) {
	for _, c := range []struct {
		text    string
		yes, no []string
	}{
		// Nullable, and not.
		{"", []string{""}, []string{"a", "\x00"}}, {"~", nil, []string{"", "a"}}, {"~?", []string{""}, []string{"a"}}, {"~*", []string{""}, []string{"a"}}, {"~{2}", nil, []string{"", "aa"}}, {"a", []string{"a"}, []string{"", "b", "aa"}}, {"a?", []string{"", "a"}, []string{"b", "aa"}}, {"a*", []string{"", "a", as(99)}, []string{"b", "aab"}}, {"a+", []string{"a", "aa"}, []string{""}}, {"a|", []string{"", "a"}, []string{"aa"}}, {"a?b*", []string{"", "a", "b", "abb"}, []string{"ba", "aab"}}, {"a?b", []string{"b", "ab"}, []string{"", "a"}}, {"a{0}", []string{""}, []string{"a"}}, {"a{0}b", []string{"b"}, []string{"", "ab"}}, {"a{0,2}", []string{"", "a", "aa"}, []string{"aaa"}},
		// Counts that may be left, and that may not.
		{"a{2,3}", []string{"aa", "aaa"}, []string{"", "a", "aaaa"}}, {"a{2,}", []string{"aa", "aaa", as(99)}, []string{"", "a"}}, {"a{2}b", []string{"aab"}, []string{"", "b", "ab", "aa", "aaab"}}, {"ab{2}", []string{"abb"}, []string{"a", "ab", "abbb"}}, {"a{3,}b?", []string{"aaa", "aaab", "aaaab"}, []string{"aa", "aab", "b", ""}}, {"(ab){3,}", []string{"ababab", "abababab"}, []string{"", "abab", "ababa", "abababa"}}, {"a{2}{3}", []string{as(6)}, []string{as(5), as(7), as(2), as(3), ""}},
		{"(a?){2,3}", []string{"", "a", "aa", "aaa"}, []string{"aaaa"}}, {"(a{2}|b?){2,3}", []string{"", "b", "bbb", "aa", "aab", "baa", "aaaaaa", "baab"}, []string{"a", "aaa", "bbbb", "aba"}}, {"(a{2,3}b?){2}c", []string{"aaaac", "aabaabc", "aaaaaac", "aaabaac"}, []string{"", "aaac", "aaaaaaac", "aabc", "aaaa"}},
		{nested, []string{"", strings.Repeat("aaaac", 3) + "e", strings.Repeat("aaabaabc", 3) + "d" + strings.Repeat("aaaac", 4) + "e"}, []string{"a", "e", strings.Repeat("aaaac", 3), strings.Repeat("aaaac", 2) + "e", strings.Repeat("aaaac", 3) + "dd"}},
		{"a{2147483647}", nil, []string{"", "a", as(2000)}}, {"a{2000,2147483647}", []string{as(2000), as(2001)}, []string{"", as(1999)}}, {"a{2000,}", []string{as(2000), as(2500)}, []string{"", as(1999)}}, {"(a{0,2147483647}b){2,2147483647}", []string{"bb", "aabb", "abaab"}, []string{"", "b", "ab", "aba"}},
		// By one config of several.
		{"a|ab|b", []string{"a", "ab", "b"}, []string{"", "ba", "bb"}}, {"(a|ab)(c|bcd)*", []string{"a", "ab", "abcd", "abc", "acbcd"}, []string{"", "b", "abd", "abcb"}}, {"(a|b)*a(a|b){3}", []string{"aaaa", "abbb", "bbbabab"}, []string{"", "aaa", "babb", "babbbb", "bbbb"}}, {"a{2,3}a", []string{"aaa", "aaaa"}, []string{"aa", "aaaaa"}}, {"(aa|aaa)*", []string{"", "aa", "aaa", as(7)}, []string{"a"}},
		{`.\x00|\xff`, []string{"\x00\x00", "\xff\x00", "\xff", "a\x00"}, []string{"", "\x00", "\xff\xff", "\x00\xff"}},
	} {
		a := auto(t, c.text)
		for _, word := range c.yes {
			if !Match(a, []byte(word)) {
				t.Errorf("%q: %q is matched", c.text, word)
			}
		}
		for _, word := range c.no {
			if Match(a, []byte(word)) {
				t.Errorf("%q: %q isn't matched", c.text, word)
			}
		}
	}
}

// P8.1: the greatest number of configs: behind the first byte, one in the midst, the whole word; none behind the empty one.
func TestMost(t *testing.T) {
	const twice = "(a{1,2}){1,3}"
	for _, c := range []struct {
		text, word string
		want       int
	}{
		{"", "", 0}, {"", "a", 0}, {"~", "a", 0}, {"a", "", 0}, {"a*", "", 0}, {"a", "b", 0}, {"a", "ba", 0}, {"a", "a", 1}, {"a", "ab", 1}, {"a", "aaaa", 1}, {"a*", as(50), 1}, {"ab", "ab", 1},
		{"a|ab|abc|bc", "a", 3}, {"a|ab|abc|bc", "ab", 3}, {"a|ab|abc|bc", "abc", 3}, {"a|ab|abc|bc", "abcd", 3}, {"a|ab|abc|bc", "bc", 1}, {"a|ab|abc|bc", "d", 0}, {"a(b|b|bc|bd)*", "a", 1}, {"a(b|b|bc|bd)*", "ab", 3}, {"a(b|b|bc|bd)*", "abca", 3},
		{twice, "", 0}, {twice, "a", 1}, {twice, "aa", 2}, {twice, "aaa", 3}, {twice, "aaaa", 3}, {twice, "aaaaaa", 3}, {twice, as(7), 3}, {twice, "ab", 1}, {twice, "aabaa", 2}, {twice, "baaa", 0},
		{"a{2,}", as(30), 1}, {"a{2,}{3,}", as(30), 5}, {"a{2147483647}", as(2000), 1}, {"(a{1,300})*", as(299), 299}, {"(a{1,300})*", as(400), 300}, {".*a.{1000}", as(2000), 1002}, {".*a.{1000}", "a" + strings.Repeat("b", 1999), 2},
	} {
		if got := Most(auto(t, c.text), []byte(c.word)); got != c.want {
			t.Errorf("%q: behind %q most are %d, not %d", c.text, c.word, got, c.want)
		}
	}
}

// P8.1: long words, and bounds of any size.
func TestLong(t *testing.T) {
	for _, c := range []struct {
		text string
		want []api.Config
	}{
		{"a{2147483647}", list(at(1, 2000))}, {"a{2147483647,}", list(at(1, 2000))}, {"a{1999,}", list(at(1, 1999))}, {"a{2,2147483647}a", list(at(1, 2000), at(2))}, {"a{2000}b", list(at(1, 2000))}, {"a{1999}b", nil}, {"a{1999}a?", list(at(2))}, {"(a{1999}){2147483647}", list(at(1, 2, 1))}, {"a{2}{2147483647,}", list(at(1, 1000, 2))}, {"(a{999}b?){1,2147483647}", list(at(1, 3, 2))},
	} {
		a := auto(t, c.text)
		if l := Behind(a, []byte(as(2000))); !slices.Equal(l, c.want) {
			t.Errorf("%q: %v, not %v", c.text, l, c.want)
		}
	}
	a := auto(t, ".*a.{1000}")
	l := Behind(a, []byte(as(2000)))
	if len(l) != 1002 || l[0] != at(1) || l[1] != at(2) || l[2] != at(3, 1) || l[1001] != at(3, 1000) || !slices.IsSortedFunc(l, config.Order) {
		t.Error(len(l), l)
	}
}

// R1: the automaton that layer 6 answers beside an error has no position, and no word.
func TestNoAuto(t *testing.T) {
	a, e := moves.Make(api.Node{Kind: 9})
	if e != api.ErrArg {
		t.Error(e)
	}
	for _, word := range []string{"", "a", "aa", "\x00"} {
		if l := Behind(a, []byte(word)); len(l) > 0 || Match(a, []byte(word)) || Most(a, []byte(word)) != 0 {
			t.Errorf("%q: %v", word, l)
		}
	}
}

// R5: a word of no bytes may be nil or empty, and means the same.
func TestNoBytes(t *testing.T) {
	for _, text := range []string{"", "~", "a", "a*", "a{2}", "(a{2}b?){0,3}"} {
		a := auto(t, text)
		for _, word := range [][]byte{nil, {}, []byte("aa")[:0]} {
			if len(Behind(a, word)) > 0 || Match(a, word) != a.Empty || Most(a, word) != 0 {
				t.Errorf("%q: %v", text, word)
			}
		}
	}
}

// R5, and LANGUAGE's rule 7: automata and words are left as they are, their spare room too, and aren't kept; what is answered is new memory.
func TestLeftAlone(t *testing.T) {
	for _, text := range []string{"", "a", "ab|[ab]c", "(a{2}b?){3}", "(a?b?){2}*", nested} {
		a, like := auto(t, text), auto(t, text)
		for _, word := range []string{"", "a", "aa", "aab", "aabaa", "b", "ba"} {
			handed := append([]byte(word), "spare"...)
			want, matched, most := Behind(like, []byte(word)), Match(like, []byte(word)), Most(like, []byte(word))
			for range 2 {
				l := Behind(a, handed[:len(word)])
				if !slices.Equal(l, want) || Match(a, handed[:len(word)]) != matched || Most(a, handed[:len(word)]) != most {
					t.Errorf("%q: behind %q %v, not %v", text, word, l, want)
				}
				clear(l[:cap(l)])
			}
			if string(handed) != word+"spare" {
				t.Errorf("%q: %q is changed to %q", text, word, handed)
			}
		}
		if !reflect.DeepEqual(a, like) {
			t.Errorf("%q: the automaton is changed", text)
		}
	}
}
