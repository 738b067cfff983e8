package dfa

import (
	"math"
	"slices"
	"strings"
	"testing"

	"ostinato/api"
	"ostinato/config"
	"ostinato/letters"
	"ostinato/moves"
	"ostinato/naive"
	"ostinato/syntax"
)

const bound = api.MaxBound

// nested has four scopes around a, the first three of them around b, two around c, one around d, none around e.
const nested = "((((a{2,3}b?){2}c){3,}d?){1,4}e)*"

// auto is a text's automaton; in the text a ~ stands for a class of no byte.
func auto(t *testing.T, text string) moves.Auto {
	t.Helper()
	n, at, e := syntax.Parse(strings.ReplaceAll(text, "~", `[^\x00-\xff]`))
	if e != api.OK {
		t.Fatal(text, at, e)
	}
	a, e := moves.Make(n)
	if e != api.OK {
		t.Fatal(text, e)
	}
	return a
}

// table is a text's table, whatever number of states it has.
func table(t *testing.T, text string) Table {
	t.Helper()
	x, e := Make(auto(t, text), api.MaxStates)
	if e != api.OK {
		t.Fatal(text, e)
	}
	return x
}

// at is a config of a position and of counts.
func at(position int, counts ...int64) api.Config {
	c := api.Config{At: position}
	copy(c.Count[:], counts)
	return c
}

func list(l ...api.Config) []api.Config {
	return l
}

// as is a word of so many a.
func as(times int) []byte {
	return slices.Repeat([]byte("a"), times)
}

// same fails, if a table isn't just as another.
func same(t *testing.T, name any, x, want Table) {
	t.Helper()
	if !slices.Equal(x.Letters.Sets, want.Letters.Sets) || x.Letters.Of != want.Letters.Of {
		t.Errorf("%q: the letters %v, not %v", name, x.Letters, want.Letters)
	}
	if !slices.EqualFunc(x.States, want.States, slices.Equal[[]api.Config]) {
		t.Errorf("%q: the states %v, not %v", name, x.States, want.States)
	}
	if !slices.EqualFunc(x.Next, want.Next, slices.Equal[[]int]) {
		t.Errorf("%q: next %v, not %v", name, x.Next, want.Next)
	}
	if !slices.Equal(x.Accepts, want.Accepts) {
		t.Errorf("%q: accepts %v, not %v", name, x.Accepts, want.Accepts)
	}
}

// none fails, unless there is no table beside ErrBudget.
func none(t *testing.T, name any, x Table, e api.Errno) {
	t.Helper()
	if e != api.ErrBudget || len(x.Letters.Sets)+len(x.States)+len(x.Next)+len(x.Accepts) > 0 || x.Letters.Of != [256]int{} {
		t.Errorf("%q: %v, with %d letters, %d states, %d and %d", name, e, len(x.Letters.Sets), len(x.States), len(x.Next), len(x.Accepts))
	}
}

// P14.1: the chapter's example.
func TestExample(t *testing.T) {
	a := auto(t, "a{3}")
	x, e := Make(a, 5)
	if e != api.OK {
		t.Error(e)
	}
	same(t, "a{3}", x, Table{
		Letters: letters.Make(a),
		States:  [][]api.Config{nil, nil, list(at(1, 1)), list(at(1, 2)), list(at(1, 3))},
		Next:    [][]int{{1, 2}, {1, 1}, {1, 3}, {1, 4}, {1, 1}},
		Accepts: []bool{false, false, false, false, true},
	})
}

// P14.1: whole tables: which states there are, in the order in which they are met, what is behind each, and which of them accept.
func TestTables(t *testing.T) {
	for _, c := range []struct {
		text, bytes, accepts string
		states               [][]api.Config
		next                 [][]int
	}{
		// No position, nullable and not: the beginning, and the state of no configs, that is none of it.
		{"", "\x00", "10", [][]api.Config{nil, nil}, [][]int{{1}, {1}}},
		{"~", "\x00", "00", [][]api.Config{nil, nil}, [][]int{{1}, {1}}},
		{"~*", "\x00", "10", [][]api.Config{nil, nil}, [][]int{{1}, {1}}},
		{"a~|a{0}", "\x00", "10", [][]api.Config{nil, nil}, [][]int{{1}, {1}}},
		// One position. By all bytes, there needn't be a state of no configs.
		{"a", "\x00a", "001", [][]api.Config{nil, nil, list(at(1))}, [][]int{{1, 2}, {1, 1}, {1, 1}}},
		{"a?", "\x00a", "101", [][]api.Config{nil, nil, list(at(1))}, [][]int{{1, 2}, {1, 1}, {1, 1}}},
		{"a+", "\x00a", "001", [][]api.Config{nil, nil, list(at(1))}, [][]int{{1, 2}, {1, 1}, {1, 2}}},
		{"a*", "\x00a", "101", [][]api.Config{nil, nil, list(at(1))}, [][]int{{1, 2}, {1, 1}, {1, 2}}},
		{".", "\x00", "010", [][]api.Config{nil, list(at(1)), nil}, [][]int{{1}, {2}, {2}}},
		{".+", "\x00", "01", [][]api.Config{nil, list(at(1))}, [][]int{{1}, {1}}},
		{".*", "\x00", "11", [][]api.Config{nil, list(at(1))}, [][]int{{1}, {1}}},
		{".{2,}", "\x00", "001", [][]api.Config{nil, list(at(1, 1)), list(at(1, 2))}, [][]int{{1}, {2}, {2}}},
		// By the letters, in order: the least bytes first, wherever they stand in the tree.
		{`\x00`, "\x00\x01", "010", [][]api.Config{nil, list(at(1)), nil}, [][]int{{1, 2}, {2, 2}, {2, 2}}},
		{`\xff`, "\x00\xff", "001", [][]api.Config{nil, nil, list(at(1))}, [][]int{{1, 2}, {1, 1}, {1, 1}}},
		{"(b|a)c|b", "\x00abc", "00011", [][]api.Config{nil, nil, list(at(2)), list(at(1), at(4)), list(at(3))}, [][]int{{1, 2, 3, 1}, {1, 1, 1, 1}, {1, 1, 1, 4}, {1, 1, 1, 4}, {1, 1, 1, 1}}},
		{"c(a|b)|a(b|c)|bb", "\x00abc", "0000011111", [][]api.Config{nil, nil, list(at(4)), list(at(7)), list(at(1)), list(at(5)), list(at(6)), list(at(8)), list(at(2)), list(at(3))},
			[][]int{{1, 2, 3, 4}, {1, 1, 1, 1}, {1, 1, 5, 6}, {1, 1, 7, 1}, {1, 8, 9, 1}, {1, 1, 1, 1}, {1, 1, 1, 1}, {1, 1, 1, 1}, {1, 1, 1, 1}, {1, 1, 1, 1}}},
		// Several configs.
		{"a|ab", "\x00ab", "0011", [][]api.Config{nil, nil, list(at(1), at(2)), list(at(3))}, [][]int{{1, 2, 1}, {1, 1, 1}, {1, 1, 3}, {1, 1, 1}}},
		{"(a|b)*a", "\x00ab", "0010", [][]api.Config{nil, nil, list(at(1), at(3)), list(at(2))}, [][]int{{1, 2, 3}, {1, 1, 1}, {1, 2, 3}, {1, 2, 3}}},
		{"(a?b?)*", "\x00ab", "1011", [][]api.Config{nil, nil, list(at(1)), list(at(2))}, [][]int{{1, 2, 3}, {1, 1, 1}, {1, 2, 3}, {1, 2, 3}}},
		{".*a.", "\x00a", "00011", [][]api.Config{nil, list(at(1)), list(at(1), at(2)), list(at(1), at(3)), list(at(1), at(2), at(3))}, [][]int{{1, 2}, {1, 2}, {3, 4}, {1, 2}, {3, 4}}},
		// Sets that overlap.
		{"[a-m]{2}[k-z]", "\x00akn", "00001", [][]api.Config{nil, nil, list(at(1, 1)), list(at(1, 2)), list(at(2))}, [][]int{{1, 2, 2, 1}, {1, 1, 1, 1}, {1, 3, 3, 1}, {1, 1, 4, 4}, {1, 1, 1, 1}}},
		{"[a-m]|[k-z]{2,}", "\x00akn", "001101", [][]api.Config{nil, nil, list(at(1)), list(at(1), at(2, 1)), list(at(2, 1)), list(at(2, 2))}, [][]int{{1, 2, 3, 4}, {1, 1, 1, 1}, {1, 1, 1, 1}, {1, 1, 5, 5}, {1, 1, 5, 5}, {1, 1, 5, 5}}},
		// Counts, with an end and without.
		{"a{2,3}", "\x00a", "00011", [][]api.Config{nil, nil, list(at(1, 1)), list(at(1, 2)), list(at(1, 3))}, [][]int{{1, 2}, {1, 1}, {1, 3}, {1, 4}, {1, 1}}},
		{"a{2,}", "\x00a", "0001", [][]api.Config{nil, nil, list(at(1, 1)), list(at(1, 2))}, [][]int{{1, 2}, {1, 1}, {1, 3}, {1, 3}}},
		{"a{0,2}", "\x00a", "1011", [][]api.Config{nil, nil, list(at(1, 1)), list(at(1, 2))}, [][]int{{1, 2}, {1, 1}, {1, 3}, {1, 1}}},
		{"a{2,3}a", "\x00a", "000011", [][]api.Config{nil, nil, list(at(1, 1)), list(at(1, 2)), list(at(1, 3), at(2)), list(at(2))}, [][]int{{1, 2}, {1, 1}, {1, 3}, {1, 4}, {1, 5}, {1, 1}}},
		{"(a{1,3})*", "\x00a", "10111", [][]api.Config{nil, nil, list(at(1, 1)), list(at(1, 1), at(1, 2)), list(at(1, 1), at(1, 2), at(1, 3))}, [][]int{{1, 2}, {1, 1}, {1, 3}, {1, 4}, {1, 4}}},
		// Scopes in scopes.
		{"(a{1,2}){1,3}", "\x00a", "00111111", [][]api.Config{nil, nil, list(at(1, 1, 1)), list(at(1, 1, 2), at(1, 2, 1)), list(at(1, 2, 1), at(1, 2, 2), at(1, 3, 1)), list(at(1, 2, 2), at(1, 3, 1), at(1, 3, 2)), list(at(1, 3, 1), at(1, 3, 2)), list(at(1, 3, 2))},
			[][]int{{1, 2}, {1, 1}, {1, 3}, {1, 4}, {1, 5}, {1, 6}, {1, 7}, {1, 1}}},
		{"(a{2}b?){2,}", "\x00ab", "00000011", [][]api.Config{nil, nil, list(at(1, 1, 1)), list(at(1, 1, 2)), list(at(1, 2, 1)), list(at(2, 1)), list(at(1, 2, 2)), list(at(2, 2))},
			[][]int{{1, 2, 1}, {1, 1, 1}, {1, 3, 1}, {1, 4, 5}, {1, 6, 1}, {1, 4, 1}, {1, 4, 7}, {1, 4, 1}}},
	} {
		a := auto(t, c.text)
		want := Table{Letters: letters.Make(a), States: c.states, Next: c.next}
		for _, is := range c.accepts {
			want.Accepts = append(want.Accepts, is == '1')
		}
		x, e := Make(a, len(c.states))
		if e != api.OK {
			t.Errorf("%q: %v", c.text, e)
		}
		same(t, c.text, x, want)
		var bytes []byte
		for i := range x.Letters.Sets {
			b, _ := x.Letters.Byte(i)
			bytes = append(bytes, b)
		}
		if string(bytes) != c.bytes {
			t.Errorf("%q: the letters' bytes %q, not %q", c.text, bytes, c.bytes)
		}
	}
}

// P14.1: how many states there are.
func TestMany(t *testing.T) {
	for _, c := range []struct {
		text   string
		states int
	}{
		{"", 2}, {".*", 2}, {"a", 3}, {"ab", 4}, {"a{3}", 5}, {"a{3,}", 5}, {"a{3}b{2}", 7}, {"a{1000}", 1002}, {"a{1000,}", 1002}, {"a{0,1000}", 1002}, {"(a{1,1000})*", 1002}, {"a{3998}", 4000}, {"a{2}{3}", 8}, {"a{2}{2}{2}{2}", 18}, {".{1,5}{1,5}", 27}, {".{3}|a", 6},
		// One of each row of a and others that may be last: to fewer bytes others may be put ahead.
		{".*a.{3}", 17}, {"(a|b)*a(a|b){3}", 18}, {".*a.{9}", 1025}, {".*a.{10}", 2049},
	} {
		if x := table(t, c.text); len(x.States) != c.states || len(x.Next) != c.states || len(x.Accepts) != c.states {
			t.Errorf("%q: %d states, %d and %d", c.text, len(x.States), len(x.Next), len(x.Accepts))
		}
	}
}

// P14.1: budgets below, at and above the number of states.
func TestBudget(t *testing.T) {
	for _, text := range []string{"", "~", ".*", "a", "a?", "a{3}", "a{2,}", "(a{1,2}){1,3}", "(a|b)*a(a|b){3}", "[a-m]{3}[k-z]", nested} {
		a := auto(t, text)
		want, e := Make(a, api.MaxStates)
		if e != api.OK {
			t.Fatal(text, e)
		}
		states := len(want.States)
		for _, budget := range []int{states, states + 1, states + 2, 2 * states, api.MaxStates - 1, api.MaxStates + 1, math.MaxInt32, math.MaxInt - 1, math.MaxInt} {
			x, e := Make(a, budget)
			if e != api.OK {
				t.Errorf("%q has %d states, of a budget of %d: %v", text, states, budget, e)
			}
			same(t, text, x, want)
		}
		for budget := range states {
			x, e := Make(a, budget)
			none(t, text, x, e)
		}
		for _, budget := range []int{-1, -2, -states, -api.MaxStates, math.MinInt32, math.MinInt + 1, math.MinInt} {
			x, e := Make(a, budget)
			none(t, text, x, e)
		}
	}
}

// P14.1: just as many states as there may be, and one more, whatever the budget.
func TestMaxStates(t *testing.T) {
	for _, text := range []string{"a{3998}", "a{3998,}", "(a{1,3998})?", ".{3998}", "a{1999}{2}"} {
		a := auto(t, text)
		for _, budget := range []int{api.MaxStates - 1, api.MaxStates, api.MaxStates + 1, math.MaxInt} {
			if x, e := Make(a, budget); budget < api.MaxStates {
				none(t, text, x, e)
			} else if e != api.OK || len(x.States) != api.MaxStates || !x.Run(as(3998)) || len(x.States[x.At(as(3998))]) != 1 {
				t.Errorf("%q, of a budget of %d: %v, %d states", text, budget, e, len(x.States))
			}
		}
	}
	for _, text := range []string{"a{3999}", "a{3999,}", "(a{1,3999})?", ".{3999}", "a{1333}{3}", "a{1000000}", "a{2147483647}", "a{2147483647,}", "(a{1,2147483647}b?){2,}", "((a{2147483647}b?){2147483647}c?){2147483647,}", ".*a.{1000}", "(a|b)*a(a|b){12}", "(a{1,2147483647})*"} {
		a := auto(t, text)
		for _, budget := range []int{-1, 0, 1, 2, 50, api.MaxStates - 1, api.MaxStates, api.MaxStates + 1, 5000, math.MaxInt} {
			x, e := Make(a, budget)
			none(t, text, x, e)
		}
	}
}

// P14.1: just as many configs as there may be in all, and one less; and counts in counts, that are beyond the budget, and beyond all memory ahead of that.
func TestMaxConfigs(t *testing.T) {
	for _, text := range []string{"", "a", "a{3}", "(a{1,9})*", "(a{1,2}){1,3}", "(a|b)*a(a|b){3}", nested} {
		a, all := auto(t, text), 0
		want := table(t, text)
		for _, l := range want.States {
			all += len(l)
		}
		x, e := made(a, len(want.States), all)
		if e != api.OK {
			t.Errorf("%q has %d configs: %v", text, all, e)
		}
		same(t, text, x, want)
		for configs := range all {
			x, e := made(a, len(want.States), configs)
			none(t, text, x, e)
		}
	}
	x, e := Make(auto(t, "(a{1,1000}){1,1000}"), api.MaxStates)
	none(t, "counts in counts", x, e)
}

// P14.2: words, the numbers of the states behind them, and whether these accept.
func TestWords(t *testing.T) {
	for _, c := range []struct {
		text    string
		numbers map[string]int
		accepts []string
	}{
		{"", map[string]int{"": 0, "a": 1, "\x00\xff": 1}, []string{""}},
		{"~", map[string]int{"": 0, "a": 1, "\x00\xff": 1}, nil},
		{".*", map[string]int{"": 0, "a": 1, "ab\x00\xff": 1}, []string{"", "a", "ab\x00\xff"}},
		{"a{3}", map[string]int{"": 0, "b": 1, "a": 2, "aa": 3, "aaa": 4, "aaaa": 1, "ab": 1, "ba": 1, "aaab": 1, "\x00": 1, "\xff": 1}, []string{"aaa"}},
		{"a{2,}", map[string]int{"": 0, "b": 1, "a": 2, "aa": 3, "aaaaa": 3, "aaab": 1, "aaaba": 1}, []string{"aa", "aaaaa"}},
		{"[a-m]{2}[k-z]", map[string]int{"": 0, "a": 2, "l": 2, "bc": 3, "mm": 3, "mk": 3, "mn": 1, "aaa": 1, "aak": 4, "klm": 4, "adz": 4, "adzz": 1, "z": 1, "!": 1}, []string{"aak", "klm", "adz"}},
		{"(a{1,2}){1,3}", map[string]int{"": 0, "a": 2, "aa": 3, "aaa": 4, "aaaa": 5, "aaaaa": 6, "aaaaaa": 7, "aaaaaaa": 1, "aba": 1}, []string{"a", "aa", "aaa", "aaaa", "aaaaa", "aaaaaa"}},
		{"(a{2}b?){2,}", map[string]int{"": 0, "aa": 3, "aab": 5, "aaba": 4, "aaa": 4, "aabaa": 6, "aabaab": 7, "aaaaba": 4, "aabb": 1}, []string{"aabaa", "aabaab"}},
	} {
		x := table(t, c.text)
		for word, number := range c.numbers {
			if got := x.At([]byte(word)); got != number {
				t.Errorf("%q: behind %q is %d, not %d", c.text, word, got, number)
			}
			if got := x.Run([]byte(word)); got != slices.Contains(c.accepts, word) {
				t.Errorf("%q: %q runs: %v", c.text, word, got)
			}
		}
		if x.At(nil) != 0 || x.At([]byte("ab")[:0]) != 0 || x.Run(nil) != x.Accepts[0] || x.Run([]byte("ab")[:0]) != x.Accepts[0] {
			t.Errorf("%q: behind no byte %d, %v", c.text, x.At(nil), x.Run(nil))
		}
	}
}

// P14.2, P14.3: words of each byte.
func TestEachByte(t *testing.T) {
	for _, text := range []string{"", "a", ".", `\x00|[\x01-z]{2}|[^\x00-\x7f]{1,2}.`, `[^\n]*\n?`, `(\xff|[\x80-\xff]){2,}`, "[a-m]{1,2}[k-z]"} {
		a, x := auto(t, text), table(t, text)
		for first := range 256 {
			runs(t, text, a, x, []byte{byte(first)})
			for _, b := range []byte{0, '\n', 'l', 0x80, 0xff} {
				runs(t, text, a, x, []byte{byte(first), b})
				runs(t, text, a, x, []byte{b, byte(first), b, byte(first)})
			}
		}
	}
}

// runs fails, if a table's state behind a word hasn't the configs behind it, or if the table doesn't tell what layer 8's matching tells.
func runs(t *testing.T, name any, a moves.Auto, x Table, word []byte) {
	t.Helper()
	at := x.At(word)
	if at < 0 || at >= len(x.States) || (at == 0) != (len(word) == 0) {
		t.Errorf("%q: behind %q is %d", name, word, at)
		return
	}
	if want := naive.Behind(a, word); !slices.Equal(x.States[at], want) {
		t.Errorf("%q: behind %q are %v, not %v", name, word, x.States[at], want)
	}
	if is := naive.Match(a, word); x.Run(word) != is || x.Accepts[at] != is {
		t.Errorf("%q: %q runs: %v, and its state accepts: %v", name, word, x.Run(word), x.Accepts[at])
	}
}

// P14.2, P14.3: words as long as may be, and longer.
func TestLong(t *testing.T) {
	for _, text := range []string{"([a-m]{2,3}[k-z]?){3,}", "[a-z]{1000}|[b-y]{3,}", ".*[f-h].{7}", "(a{1,99}b?){3,}", "a{1999}b?", nested} {
		a, x := auto(t, text), table(t, text)
		for _, part := range []string{"a", "aabaaaac", "abcxyz", "bbbbd", "lmnk", "fgh!", "zyxwvutsrqponmlkjihgfedcba", "aaaacaabaabcaaaaacd"} {
			for _, many := range []int{1999, 2000, 2001} {
				runs(t, text, a, x, slices.Repeat([]byte(part), many)[:many])
			}
		}
	}
	x := table(t, "(a{2,3}b?)*")
	if word := slices.Repeat([]byte("aabaaa"), 100000); !x.Run(word) || !slices.Equal(x.States[x.At(word)], list(at(1, 1), at(1, 3))) || x.Run(append(word, 'c', 'a', 'a')) {
		t.Error(x.At(word))
	}
}

// P14.1, P14.2: the automaton that layer 6 answers beside an error has no position, and no word.
func TestNoAuto(t *testing.T) {
	a, e := moves.Make(api.Node{Kind: 9})
	if e != api.ErrArg {
		t.Error(e)
	}
	x, e := Make(a, 2)
	if e != api.OK {
		t.Error(e)
	}
	same(t, "no automaton", x, Table{Letters: letters.Make(), States: [][]api.Config{nil, nil}, Next: [][]int{{1}, {1}}, Accepts: []bool{false, false}})
	if x.Run(nil) || x.Run([]byte("a")) || x.At(nil) != 0 || x.At([]byte("ab")) != 1 {
		t.Error(x)
	}
	x, e = Make(a, 1)
	none(t, "no automaton", x, e)
}

// P14.2: a table without states, whatever else it has.
func TestNoStates(t *testing.T) {
	x := table(t, "a*")
	for _, x := range []Table{{}, {States: [][]api.Config{}}, {Letters: x.Letters}, {Next: x.Next}, {Accepts: x.Accepts}, {Letters: x.Letters, Next: x.Next, Accepts: x.Accepts}} {
		for _, word := range []string{"", "a", "aa", "b", "\x00", "\xff\x00"} {
			if x.Run([]byte(word)) || x.At([]byte(word)) != 0 {
				t.Errorf("%q: %v, %d", word, x.Run([]byte(word)), x.At([]byte(word)))
			}
		}
	}
}

// R1: tables that Make hasn't made: they lead to no state, or are told too little of one.
func TestStrange(t *testing.T) {
	states := [][]api.Config{nil, nil, list(at(1))}
	for _, x := range []Table{
		{States: states}, {States: states, Accepts: []bool{true}}, {States: states, Next: [][]int{{}}, Accepts: []bool{true, true, true}}, {States: states, Next: [][]int{nil, {0}}, Accepts: []bool{true, true, true}},
		{States: states, Next: [][]int{{3}}, Accepts: []bool{true, true, true, true}}, {States: states, Next: [][]int{{-1}}, Accepts: []bool{true, true, true}}, {States: states, Next: [][]int{{math.MaxInt}}}, {States: states, Next: [][]int{{math.MinInt}}},
	} {
		if x.At([]byte("a")) != 0 || x.Run([]byte("a")) || x.At(nil) != 0 || x.Run(nil) != (len(x.Accepts) > 0) {
			t.Errorf("%v: %d, %v, %d, %v", x, x.At([]byte("a")), x.Run([]byte("a")), x.At(nil), x.Run(nil))
		}
	}
	x := Table{States: states, Next: [][]int{{1, 2}, {2}, {0}}, Accepts: []bool{false, true}}
	for b := range x.Letters.Of {
		x.Letters.Of[b] = []int{0, 1, -1, 2, math.MinInt, math.MaxInt}[b%6]
	}
	for word, want := range map[string]struct {
		at  int
		run bool
	}{"": {0, false}, "\x00": {1, true}, "\x01": {2, false}, "\x00\x00": {2, false}, "\x01\x00": {0, false}, "\x00\x01": {0, false}, "\x02": {0, false}, "\x03": {0, false}, "\x04": {0, false}, "\x05": {0, false}, "\x00\x02": {0, false}, "\x01\x00\x00": {1, true}} {
		if x.At([]byte(word)) != want.at || x.Run([]byte(word)) != want.run {
			t.Errorf("%q: %d, %v", word, x.At([]byte(word)), x.Run([]byte(word)))
		}
	}
}

// P14.1: each state's configs rise, by At and then by counts, in whatever order they are met.
func TestRising(t *testing.T) {
	for _, text := range []string{"((b|a)(c|d)){2,3}(a|b)", "(a{1,3}){1,3}", "(a|b){1,9}*b?a?", "((a{1,2}b?){1,2}a?){1,3}*", "(a?a?a?b?){1,4}*", nested} {
		x, several := table(t, text), 0
		for i, l := range x.States {
			for j := 1; j < len(l); j++ {
				several++
				if config.Order(l[j-1], l[j]) != -1 {
					t.Errorf("%q: of the state %d %v", text, i, l)
				}
			}
		}
		if several == 0 {
			t.Errorf("%q: %v", text, x.States)
		}
	}
}
