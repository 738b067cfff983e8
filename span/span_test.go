package span

import (
	"math"
	"slices"
	"strings"
	"testing"

	"ostinato/api"
	"ostinato/class"
	"ostinato/show"
	"ostinato/syntax"
)

// read is a text's tree; in the text a ~ stands for a class of no byte.
func read(t testing.TB, text string) api.Node {
	t.Helper()
	n, at, e := syntax.Parse(strings.ReplaceAll(text, "~", `[^\x00-\xff]`))
	if e != api.OK {
		t.Fatal(text, at, e)
	}
	return n
}

// one is a node of Kind 1, of the bytes of a text.
func one(text string) api.Node {
	return api.Node{Kind: 1, Set: class.Of([]byte(text)...)}
}

func cats(l ...api.Node) api.Node {
	return api.Node{Kind: 2, Parts: l}
}

func alts(l ...api.Node) api.Node {
	return api.Node{Kind: 3, Parts: l}
}

func repeat(n api.Node, lo, hi int64) api.Node {
	return api.Node{Kind: 4, Parts: []api.Node{n}, Lo: lo, Hi: hi}
}

// as is a word of so many a.
func as(times int) string {
	return strings.Repeat("a", times)
}

// spans are the rows of a word of at most 200 bytes. It fails, if there isn't a row for each place, with a place for each; if a place is reached from a later one; or if Is tells otherwise.
func spans(t testing.TB, n api.Node, word string) [][]bool {
	t.Helper()
	l, e := Spans(n, []byte(word))
	if e != api.OK || len(l) != len(word)+1 {
		t.Fatalf("%q in %q: %d rows, error %d", show.Text(n), word, len(l), e)
	}
	for from, row := range l {
		if len(row) != len(l) {
			t.Fatalf("%q in %q: the row %d has %d places", show.Text(n), word, from, len(row))
		}
		if back := slices.Index(row[:from], true); back >= 0 {
			t.Errorf("%q in %q: from %d to %d", show.Text(n), word, from, back)
		}
	}
	if is, e := Is(n, []byte(word)); e != api.OK || is != l[0][len(word)] {
		t.Errorf("%q: %q is one: %v, error %d", show.Text(n), word, is, e)
	}
	return l
}

// written is what is reached from each place, as digits, or - where nothing is.
func written(l [][]bool) string {
	var rows []string
	for _, row := range l {
		digits := ""
		for to, is := range row {
			if is {
				digits += "0123456789"[to : to+1]
			}
		}
		if digits == "" {
			digits = "-"
		}
		rows = append(rows, digits)
	}
	return strings.Join(rows, " ")
}

// isSpan fails, if in a word something else is reached than is written.
func isSpan(t *testing.T, text, word, want string) {
	t.Helper()
	if got := written(spans(t, read(t, text), word)); got != want {
		t.Errorf("%q in %q: %s, not %s", text, word, got, want)
	}
}

// P11.1: Spans at every place of a word, by each kind of node.
func TestSpans(t *testing.T) {
	for _, c := range [][3]string{
		// Nothing.
		{"", "ab", "0 1 2"}, {"()()", "ab", "0 1 2"}, {"|", "ab", "0 1 2"},
		// A byte of none, of one, of several, of all.
		{"~", "a", "- -"}, {"~", "ab", "- - -"},
		{"a", "aba", "1 - 3 -"}, {"b", "aba", "- 2 - -"}, {"c", "aba", "- - - -"}, {`\x00`, "a\x00\xff", "- 2 - -"}, {`\xff`, "a\x00\xff", "- - 3 -"},
		{"[ab]", "acb", "1 - 3 -"}, {"[^b]", "abc", "1 - 3 -"}, {"[b-d]", "abcde", "- 2 3 4 - -"}, {".", "a\x00\xff", "1 2 3 -"}, {"[^a]", "\xc3\xa9a", "1 2 - -"},
		// A row.
		{"ab", "abab", "2 - 4 - -"}, {"aba", "ababa", "3 - 5 - - -"}, {"aa", "aaaa", "2 3 4 - -"}, {"a()b", "abab", "2 - 4 - -"}, {"()ab()", "abab", "2 - 4 - -"}, {"a~", "aaa", "- - - -"}, {"~a", "aaa", "- - - -"}, {"a~b", "ab", "- - -"}, {"abcd", "abcdabc", "4 - - - - - - -"}, {"a.c", "abcaac", "3 - - 6 - - -"},
		{"a?b", "abb", "2 2 3 -"}, {"ab?", "aba", "12 - 3 -"}, {"a?b?", "abab", "012 12 234 34 4"}, {"a?b?a?", "aba", "0123 123 23 3"}, {"a*b*", "aabb", "01234 1234 234 34 4"}, {"a*ba*", "aabaa", "345 345 345 - - -"},
		// One of some.
		{"a|b", "abc", "1 2 - -"}, {"a|ab", "abab", "12 - 34 - -"}, {"ab|a", "abab", "12 - 34 - -"}, {"a|", "ab", "01 1 2"}, {"|a", "ab", "01 1 2"}, {"~|b", "ab", "- 2 -"}, {"b|~", "ab", "- 2 -"}, {"~|~", "ab", "- - -"}, {"a|a", "aa", "1 2 -"}, {"a|aaa|aa", "aaaa", "123 234 34 4 -"}, {"ab|ba|abb", "abba", "23 - 4 - -"}, {"abc|b|c", "abc", "3 2 3 -"},
		// Repeated: no time, at most one, without end.
		{"a{0}", "aa", "0 1 2"}, {"(ab|c){0}", "abc", "0 1 2 3"}, {"a?", "aab", "01 12 2 3"}, {"a{0,2}", "aaaa", "012 123 234 34 4"}, {"a*", "aab", "012 12 2 3"}, {"a{0,}", "baa", "0 123 23 3"}, {"a+", "aab", "12 2 - -"}, {"a{2,}", "aaaa", "234 34 4 - -"}, {"a{3,}", "aaaaba", "34 4 - - - - -"}, {"(ab)*", "ababa", "024 1 24 3 4 5"}, {"(ab)+", "ababa", "24 - 4 - - -"}, {"(aa)*", "aaaaa", "024 135 24 35 4 5"}, {"(aa)+", "aaaaa", "24 35 4 5 - -"},
		// As many times as that, and some times.
		{"a{1}", "aa", "1 2 -"}, {"a{2}", "aaaa", "2 3 4 - -"}, {"a{3,3}", "aaaa", "3 4 - - -"}, {"(ab){2}", "ababab", "4 - 6 - - - -"}, {"a{5}", "aaaa", "- - - - -"}, {"a{1,1}", "ab", "1 - -"}, {"a{2,3}", "aaaaa", "23 34 45 5 - -"}, {"a{1,4}", "aaa", "123 23 3 -"}, {"(aa|aaa){2}", "aaaaaa", "456 56 6 - - - -"}, {"(a{3}){2,3}", as(9), "69 7 8 9 - - - - - -"}, {"(ab?){2}", "abaab", "3 - 45 - - -"}, {"(ab?){2,3}", "abaab", "345 - 45 - - -"}, {"(ab|a){3}", "aababa", "45 6 - - - - -"},
		// Of something nullable: fewer times are enough.
		{"(a?){3}", "aaaa", "0123 1234 234 34 4"}, {"(a?){2,3}", "aaaa", "0123 1234 234 34 4"}, {"(a?)+", "aab", "012 12 2 3"}, {"(a|){5,}", "aab", "012 12 2 3"}, {"(a*){2}", "aba", "01 1 23 3"}, {"(a*b?){2}", "abab", "01234 1234 234 34 4"}, {"(a*b?){1}", "abab", "012 12 234 34 4"}, {"(){7}", "ab", "0 1 2"}, {"(a{0}){2,}", "a", "0 1"}, {"(~?){3}", "a", "0 1"}, {"(a?b?){2}", "aabba", "0123 1234 234 345 45 5"},
		// Of something void: no time, or nothing.
		{"~*", "ab", "0 1 2"}, {"~?", "ab", "0 1 2"}, {"~{0}", "a", "0 1"}, {"~{0,5}", "a", "0 1"}, {"~{1}", "a", "- -"}, {"~+", "ab", "- - -"}, {"~{2,3}", "ab", "- - -"}, {"~{2,}", "ab", "- - -"}, {"(a~)*", "aa", "0 1 2"}, {"(a~|~b){2}", "aabb", "- - - - -"}, {"(a|~){2}", "aaa", "2 3 - -"},
		// Some in each other.
		{"(a|ab)(c|bcd)", "abcd", "34 - - - -"}, {"(a|ab)(c|bcd)", "acabc", "2 - 5 - - -"}, {"(a{2,3}b?){2}", "aaaab", "45 - - - - -"}, {"(a{2,3}b?){2}", "aabaab", "56 - - - - - -"}, {"(a{1,2}){1,3}", as(7), "123456 234567 34567 4567 567 67 7 -"}, {"(a{2}|a{3}){3,}", as(8), "678 78 8 - - - - - -"}, {"((a|b)*c)?", "abc", "03 13 23 3"}, {"(a*|b{2}){2}c", "abbc", "4 4 - 4 -"}, {"(a*|b{2}){2}c", "abbac", "- 5 - 5 5 -"}, {"(a|b(a|b)b)+", "abbba", "145 45 - - 5 -"}, {"((ab?){2}a)*", "aabaaa", "04 15 2 36 4 5 6"},
	} {
		isSpan(t, c[0], c[1], c[2])
	}
}

// P11.1: Spans and Is of the empty word: it has one place, which is reached just if it is a word of the tree.
func TestEmptyWord(t *testing.T) {
	for _, text := range []string{"", "()", "a*", "a?b?", "a{0}", "(a|)b*", "(a?){5}", "(a?){2147483647}", "a{0,2147483647}", "(){2147483647,}", "~*", "~{0}", "|~", "(~?a*){2}"} {
		isSpan(t, text, "", "0")
	}
	for _, text := range []string{"a", "~", ".", "ab", "a*b", "a|b", "a+", "a{2}", "a{2147483647}", "~+", "~|a", "~{2147483647,}", "()~", "(a?b){3}"} {
		isSpan(t, text, "", "-")
	}
	for _, word := range [][]byte{nil, {}, make([]byte, 0, 9)} {
		l, e := Spans(one("a"), word)
		if e != api.OK || len(l) != 1 || len(l[0]) != 1 || l[0][0] {
			t.Error(l, e)
		}
		if is, e := Is(repeat(one("a"), 0, -1), word); e != api.OK || !is {
			t.Error(is, e)
		}
	}
}

// P11.1: bounds far beyond the word's length; counted up to, they would not be over today.
func TestGreatBounds(t *testing.T) {
	for _, c := range [][3]string{
		{"a{2147483647}", "aaa", "- - - -"}, {"a{2147483647,}", "aaa", "- - - -"}, {"a{2147483646,2147483647}", "aaa", "- - - -"}, {"a{0,2147483647}", "aab", "012 12 2 3"}, {"a{1,2147483647}", "aab", "12 2 - -"}, {"a{2,2147483647}", "aaa", "23 3 - -"}, {"(aa){1,2147483647}", "aaaaa", "24 35 4 5 - -"}, {"(ab){0,2000000001}", "ababa", "024 1 24 3 4 5"},
		{"(a?){2147483647}", "aab", "012 12 2 3"}, {"(a?){2147483646,2147483647}", "aab", "012 12 2 3"}, {"(a?){2147483647,}", "aab", "012 12 2 3"}, {"(a*b?){1073741824}", "abcb", "012 12 2 34 4"}, {"(a{2}|){2147483647}", "aaaaa", "024 135 24 35 4 5"}, {"(a?){2000000000}b", "aab", "3 3 3 -"},
		{"(){2147483647}", "a", "0 1"}, {"(){2147483647,}", "a", "0 1"}, {"(a{0}){0,2147483647}", "a", "0 1"}, {"~{2147483647}", "a", "- -"}, {"~{2147483647,}", "a", "- -"}, {"~{0,2147483647}", "a", "0 1"}, {"~{1,2147483647}", "a", "- -"}, {"(~?){2147483647}", "a", "0 1"},
		{"(a{2147483647}|b){2147483647,}", "ab", "- - -"}, {"(a{2147483647}|b){2,2147483647}", "abb", "- 3 - -"}, {"(a|b{0,2147483647}){2147483647}", "ab", "012 12 2"}, {"((a{0,2147483647}b){0,2147483647}c){1,2147483647}", "aabcc", "45 45 45 45 5 -"}, {"a{0,2147483647}{2147483647,}", "aa", "012 12 2"}, {"a{1,2147483647}{2,2147483647}{2}", "aaaaa", "45 5 - - - -"}, {"((a?){2147483647}b{2}){2,2147483647}", "abbbb", "5 5 - - - -"}, {"(a{2147483647}){2147483647}", "aaa", "- - - -"}, {"(a{0,2147483647}){0,2147483647}", "aaa", "0123 123 23 3"},
	} {
		isSpan(t, c[0], c[1], c[2])
	}
}

// P11.1: so many times, of each number of times that there may be: none is left out, none is put to them.
func TestEachNumber(t *testing.T) {
	const long = 70
	word := as(long)
	for lo := range int64(long + 6) {
		for _, more := range []int64{0, 1, 2, 3, 7, 8, 15, 31, 32, 33, 64, api.MaxBound - lo, -1} {
			hi := lo + more
			if more == -1 {
				hi = -1
			}
			once, twice := spans(t, repeat(one("a"), lo, hi), word), spans(t, repeat(cats(one("a"), one("a")), lo, hi), word)
			for from := range long + 1 {
				for to := from; to <= long; to++ {
					far := int64(to - from)
					if want := far >= lo && (hi == -1 || far <= hi); once[from][to] != want {
						t.Fatalf("a, %d to %d times, from %d to %d: %v", lo, hi, from, to, !want)
					}
					if want := far%2 == 0 && far/2 >= lo && (hi == -1 || far/2 <= hi); twice[from][to] != want {
						t.Fatalf("aa, %d to %d times, from %d to %d: %v", lo, hi, from, to, !want)
					}
				}
			}
		}
	}
}

// P11.1: a part of a row is put where it stands, however great the others are.
func TestRows(t *testing.T) {
	parts := []string{"a", "(b|c{1,2})", "d", "(((e)*)*)*", "f?", "g"}
	for i := range parts {
		for j := range parts {
			l := slices.Clone(parts)
			l[i], l[j] = "("+l[i]+"|zz(y|x)*)", "(((("+l[j]+")?)+){1})"
			row, want := strings.Join(l, ""), "5 - - - - -"
			switch j {
			case 0:
				want = "5 5 - - - -"
			case 5:
				want = "345 - - - - -"
			}
			isSpan(t, row, "abdfg", want)
		}
	}
	for size := 2; size < 9; size++ {
		word := "abcdefgh"[:size]
		for great := range size {
			l := []api.Node{}
			for i := range size {
				l = append(l, one(word[i:i+1]))
			}
			l[great] = alts(cats(l[great], l[great]), l[great])
			got := spans(t, cats(l...), word)
			for from, row := range got {
				for to, is := range row {
					if is != (from == 0 && to == size) {
						t.Errorf("%q with %d as the greatest: from %d to %d %v", word, great, from, to, is)
					}
				}
			}
		}
	}
}

// P11.1: Is, of words and of others.
func TestIs(t *testing.T) {
	for _, c := range []struct {
		text    string
		yes, no []string
	}{
		{"(a|ab)(c|bcd)", []string{"abcd", "ac", "abc", "abbcd"}, []string{"", "a", "ab", "abcdd", "acd", "c", "aabcd"}},
		{"", []string{""}, []string{"a", "\x00"}}, {"~", nil, []string{"", "a"}}, {"a", []string{"a"}, []string{"", "b", "aa", "A"}}, {".", []string{"\x00", "\xff", "\n"}, []string{"", "\u00e9"}}, {"[^a-c]", []string{"d", "\x80"}, []string{"", "a", "c", "dd"}},
		{"a*b", []string{"b", "ab", as(199) + "b"}, []string{"", "a", "ba", "abb", as(200)}}, {"a{2,3}a", []string{"aaa", "aaaa"}, []string{"", "a", "aa", "aaaaa"}}, {"a{2}{3}", []string{as(6)}, []string{"", "aa", as(5), as(7), as(12)}}, {"a{200}", []string{as(200)}, []string{"", as(199)}}, {"a{201}", nil, []string{"", as(200)}}, {"a{3,}", []string{"aaa", as(200)}, []string{"", "aa", "aaab"}},
		{"(ab?){2,2}", []string{"aa", "aba", "abab", "aab"}, []string{"", "a", "aaa", "abb"}}, {"(a?){2000000000}b", []string{"b", "aab", as(199) + "b"}, []string{"", "a", "bb"}}, {"(aa){1,2147483647}", []string{"aa", as(200)}, []string{"", "a", as(199)}}, {"(a{2}|a{3}){3,}", []string{as(6), as(7), as(8), as(100)}, []string{"", as(5)}}, {"(a{50}){0,4}", []string{"", as(50), as(150), as(200)}, []string{as(49), as(51), as(199)}}, {".*a.{5}", []string{"a12345", "aaaaaa", "xaxaxaxax", "xaxaxxxxx"}, []string{"", "a1234", "xaxaxxxx"}},
	} {
		n := read(t, c.text)
		for _, word := range c.yes {
			if is, e := Is(n, []byte(word)); e != api.OK || !is {
				t.Errorf("%q: %q isn't one, error %d", c.text, word, e)
			}
		}
		for _, word := range c.no {
			if is, e := Is(n, []byte(word)); e != api.OK || is {
				t.Errorf("%q: %q is one: %v, error %d", c.text, word, is, e)
			}
		}
	}
}

// P11.1: words of up to 200 bytes, and all of their places.
func TestLength(t *testing.T) {
	n := read(t, "a{100,150}|b+")
	for size := 197; size <= 200; size++ {
		word := as(size-30) + strings.Repeat("b", 30)
		for from, row := range spans(t, n, word) {
			for to, is := range row {
				want := to <= size-30 && 100 <= to-from && to-from <= 150 || size-30 <= from && from < to
				if is != want {
					t.Fatalf("%d bytes: from %d to %d %v", size, from, to, is)
				}
			}
		}
	}
	for _, text := range []string{"", "~", "a", "ab", "a|b", "a*", "a{2147483647}", "(a?){2147483647}"} {
		n := read(t, text)
		spans(t, n, as(200))
		for _, size := range []int{201, 202, 255, 256, 257, 400, 2000, 100000} {
			fails(t, n, make([]byte, size), api.ErrLimit)
			fails(t, n, []byte(as(size)), api.ErrLimit)
		}
	}
}

// fails fails, if a tree and a word don't have just that error, and nothing beside it.
func fails(t *testing.T, n api.Node, word []byte, want api.Errno) {
	t.Helper()
	if l, e := Spans(n, word); e != want || len(l) != 0 {
		t.Errorf("%v, %d bytes: %d rows, error %d", n, len(word), len(l), e)
	}
	if is, e := Is(n, word); e != want || is {
		t.Errorf("%v, %d bytes: is %v, error %d", n, len(word), is, e)
	}
}

// unformed are trees of which one node isn't formed; were that not asked, some would have words.
func unformed() []api.Node {
	a, some := one("a"), api.Class{1}
	two := []api.Node{a, a}
	l := []api.Node{
		{Set: some}, {Parts: two}, {Lo: 1}, {Hi: -1}, {Hi: 1},
		{Kind: 1, Parts: two}, {Kind: 1, Lo: 1}, {Kind: 1, Set: some, Hi: -1}, {Kind: 1, Set: some, Parts: []api.Node{{}}},
		{Kind: 2}, {Kind: 2, Parts: two[:1]}, {Kind: 2, Parts: []api.Node{{}}}, {Kind: 2, Parts: two, Hi: 1}, {Kind: 2, Parts: two, Set: some},
		{Kind: 3}, {Kind: 3, Parts: two[:1]}, {Kind: 3, Parts: []api.Node{{}}}, {Kind: 3, Parts: two, Lo: 1}, {Kind: 3, Parts: two, Set: some},
		{Kind: 4}, {Kind: 4, Hi: -1}, {Kind: 4, Lo: 1, Hi: 1}, {Kind: 4, Hi: -1, Parts: two}, {Kind: 4, Hi: -1, Parts: two[:1], Set: some},
		{Kind: 5}, {Kind: 9}, {Kind: -1}, {Kind: 257}, {Kind: math.MaxInt, Parts: two}, {Kind: math.MinInt, Parts: two[:1], Hi: -1},
	}
	for _, b := range [][2]int64{{-1, -1}, {-1, 0}, {1, 0}, {0, -2}, {3, 2}, {0, api.MaxBound + 1}, {api.MaxBound + 1, -1}, {math.MinInt64, -1}, {math.MaxInt64, math.MaxInt64}, {0, math.MinInt64}} {
		l = append(l, repeat(a, b[0], b[1]), repeat(api.Node{Kind: 1}, b[0], b[1]), repeat(api.Node{}, b[0], b[1]))
	}
	return l
}

// P11.1: trees that aren't formed, wherever in them the fault is, whatever the word: that comes ahead of the word's length.
func TestUnformed(t *testing.T) {
	void := api.Node{Kind: 1}
	for _, n := range unformed() {
		for _, m := range []api.Node{
			n, cats(n, void), cats(void, n), alts(n, api.Node{}), alts(api.Node{}, n), repeat(n, 0, -1), repeat(n, 0, 0), repeat(n, 1, 1),
			cats(cats(n, void), void), alts(alts(api.Node{}, n), api.Node{}), repeat(repeat(n, 1, 1), 0, 0), alts(void, repeat(cats(void, n), 1, -1)),
		} {
			for _, word := range [][]byte{nil, []byte("a"), []byte("aa"), make([]byte, 200), make([]byte, 201), []byte(as(201)), make([]byte, 5000)} {
				fails(t, m, word, api.ErrArg)
			}
		}
	}
}

// fill writes over each list of a tree.
func fill(n api.Node) {
	for i := range n.Parts {
		fill(n.Parts[i])
		n.Parts[i] = one("spoilt")
	}
}

// R5, and LANGUAGE's rule 7: the tree and the word that are handed in are left as they are, their spare room too, and are not kept; what is answered is new memory, and no two rows of it share any.
func TestLeftAlone(t *testing.T) {
	for _, text := range []string{"", "a", "ab", "a|b", "a*", "(a|ab)(c|bcd)", "(a{2,3}b?){2}c?", "((ab|c){1}|(ab)?d){2}(e(fg|fg))*", "(a?){2147483647}|~", "a{0}b(c|(d|e)f)g"} {
		n, like := read(t, text), read(t, text)
		n.Parts = append(n.Parts, one("x"), one("y"))[:len(like.Parts)]
		room := slices.Clone(n.Parts[:cap(n.Parts)])
		handed := []byte("abcaab, and spare")
		word := handed[:6]
		want := spans(t, like, "abcaab")
		l, _ := Spans(n, word)
		Is(n, word)
		if !syntax.Same(n, like) || !slices.EqualFunc(n.Parts[:cap(n.Parts)], room, syntax.Same) {
			t.Errorf("%q: changed to %q", text, show.Text(n))
		}
		if string(handed) != "abcaab, and spare" {
			t.Errorf("%q: the word is changed to %q", text, handed)
		}
		fill(n)
		clear(handed)
		if !slices.EqualFunc(l, want, slices.Equal) {
			t.Errorf("%q: memory is shared", text)
		}
		for i, row := range l {
			for k := range row[:cap(row)] {
				row[:cap(row)][k] = k%2 == 0
			}
			if !slices.EqualFunc(l[i+1:], want[i+1:], slices.Equal) {
				t.Errorf("%q: two rows share memory", text)
			}
		}
		if again := spans(t, like, "abcaab"); !slices.EqualFunc(again, want, slices.Equal) {
			t.Errorf("%q: what was answered is written over, and told again", text)
		}
	}
}

// R7: calls do not hang on one another.
func TestCallsApart(t *testing.T) {
	n, word := read(t, "(a{2,3}b?){2}"), []byte("aaaab")
	for range 3 {
		isSpan(t, "(a{2,3}b?){2}", "aaaab", "45 - - - - -")
		fails(t, n, make([]byte, 201), api.ErrLimit)
		fails(t, api.Node{Kind: 9}, word, api.ErrArg)
		isSpan(t, "a*", "aaaa", "01234 1234 234 34 4")
		isSpan(t, "~", "", "-")
	}
}
