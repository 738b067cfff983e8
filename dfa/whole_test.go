package dfa

import (
	"fmt"
	"math/bits"
	"slices"
	"strings"
	"testing"

	"ostinato/api"
	"ostinato/class"
	"ostinato/letters"
	"ostinato/moves"
	"ostinato/naive"
	"ostinato/show"
	"ostinato/stream"
)

// told is an automaton's table, told by layer 8: of each state a word that leads there, whose configs, and those behind its longer ones, are looked up anew; and true; false, if it has more than so many states.
func told(a moves.Auto, most int) (Table, bool) {
	x := Table{Letters: letters.Make(a), States: [][]api.Config{nil}, Accepts: []bool{naive.Match(a, nil)}}
	words, numbers := [][]byte{nil}, map[string]int{}
	for i := 0; i < len(words); i++ {
		var row []int
		for letter := range x.Letters.Sets {
			b, _ := x.Letters.Byte(letter)
			word := append(slices.Clone(words[i]), b)
			l := naive.Behind(a, word)
			to, met := numbers[fmt.Sprint(l)]
			if !met {
				to = len(words)
				numbers[fmt.Sprint(l)] = to
				words, x.States, x.Accepts = append(words, word), append(x.States, l), append(x.Accepts, naive.Match(a, word))
			}
			row = append(row, to)
		}
		x.Next = append(x.Next, row)
		if len(words) > most {
			return Table{}, false
		}
	}
	return x, true
}

// holds fails, if an automaton's table isn't what layer 8 tells, or is told of a lesser budget; its answer is the table, if it has no more than so many states.
func holds(t *testing.T, name string, a moves.Auto, most int) (Table, bool) {
	t.Helper()
	want, within := told(a, most)
	if !within {
		x, e := Make(a, most)
		none(t, name, x, e)
		return Table{}, false
	}
	states := len(want.States)
	x, e := Make(a, states)
	if e != api.OK {
		t.Errorf("%q has %d states: %v", name, states, e)
		return Table{}, false
	}
	same(t, name, x, want)
	y, e := Make(a, states-1)
	none(t, name, y, e)
	sound(t, name, x)
	return x, true
}

// sound fails, if a table isn't one: two states behind words have the same configs, state 0 has some, or comes behind a word; or states aren't numbered as they are met.
func sound(t *testing.T, name string, x Table) {
	t.Helper()
	states := len(x.States)
	if len(x.States[0]) > 0 || len(x.Next) != states || len(x.Accepts) != states {
		t.Errorf("%q: %v", name, x)
	}
	for i := 1; i < states; i++ {
		for j := 1; j < i; j++ {
			if slices.Equal(x.States[i], x.States[j]) {
				t.Errorf("%q: the states %d and %d are one", name, j, i)
			}
		}
	}
	met := 1
	for i, row := range x.Next {
		if len(row) != len(x.Letters.Sets) || i >= met {
			t.Errorf("%q: behind the state %d %v", name, i, row)
		}
		for _, to := range row {
			if to < 1 || to > met {
				t.Errorf("%q: behind the state %d %v, where %d is next", name, i, row, met)
			}
			met = max(met, to+1)
		}
	}
	if met != states {
		t.Errorf("%q: of %d states %d are met", name, states, met)
	}
}

func repeat(n api.Node, lo, hi int64) api.Node {
	return api.Node{Kind: 4, Parts: []api.Node{n}, Lo: lo, Hi: hi}
}

func cats(l ...api.Node) api.Node {
	return api.Node{Kind: 2, Parts: l}
}

func alts(l ...api.Node) api.Node {
	return api.Node{Kind: 3, Parts: l}
}

// grown are trees made of one, or of two of some.
func grown(of []api.Node) []api.Node {
	var l []api.Node
	for _, x := range of {
		for _, b := range [][2]int64{{0, -1}, {0, 1}, {0, 0}, {1, -1}, {2, 2}, {2, -1}, {1, 3}} {
			l = append(l, repeat(x, b[0], b[1]))
		}
		for _, y := range of {
			l = append(l, cats(x, y), alts(x, y))
		}
	}
	return l
}

// grownHolds fails, if a tree's table isn't what layer 8 tells, or doesn't tell of some words what that does.
func grownHolds(t *testing.T, n api.Node, words [][]byte) {
	t.Helper()
	a, e := moves.Make(n)
	if e != api.OK {
		t.Fatal(show.Text(n), e)
	}
	if x, within := holds(t, show.Text(n), a, 60); within {
		for _, word := range words {
			runs(t, show.Text(n), a, x, word)
		}
	}
}

// words are all words of some bytes, of at most so many.
func words(bytes string, most int) [][]byte {
	l := [][]byte{nil}
	for i := 0; len(l[i]) < most; i++ {
		for _, b := range []byte(bytes) {
			l = append(l, append(slices.Clone(l[i]), b))
		}
	}
	return l
}

// P14.1 to P14.3: of some thousand trees, and of deeper ones, the whole tables, and what they tell of short words.
func TestGrown(t *testing.T) {
	one := func(l ...byte) api.Node { return api.Node{Kind: 1, Set: class.Of(l...)} }
	least := []api.Node{{}, one(), one('a'), one('b'), one('a', 'b')}
	small := append(grown(least), least...)
	all := append(grown(small), small...)
	short := words("abc", 3)
	for i, n := range all {
		x, y := all[(7*i+3)%len(all)], all[(11*i+5)%len(all)]
		if i%6 == 0 {
			grownHolds(t, n, short)
		}
		switch i % 12 {
		case 0:
			grownHolds(t, cats(repeat(alts(n, x), 2, 3), repeat(y, 0, 1)), short)
		case 4:
			grownHolds(t, repeat(cats(y, repeat(repeat(x, 1, -1), 2, -1), repeat(n, 0, 2)), 1, -1), short)
		case 8:
			grownHolds(t, repeat(alts(cats(x, repeat(n, 3, -1)), repeat(y, 0, -1)), int64(i%3), 4), short)
		}
	}
}

// counted are expressions whose counts come together, go different ways, end and stay.
func counted() []string {
	return []string{
		"", "~", "a{2,3}a", "(a{2,3}b?){2}", "(a{1,2}){1,3}", "((a{2}b?){2}b?){2}", "(a{2,}b?){2,}", "((a{2})+){2,}b", "(a{3}|b{2,4}){2,3}", "((a|b{2}){3})*", "(((a{1,2}b?){1,2}b?){1,2}a?){1,2}", "(a*b){3,4}", "([ab]{2}){3,}", "((a?b){2,3}){2}a{0,2}", "(a|ab)(b|bab)*", ".*a.{5}", "((a?b?){2,4}){1,2}", "((a|ba){2,3}b?){2,}a?", "(a{0,3}b{0,3}){2}", "((aa|aaa)*b){1,2}", "a{7}|b{5,}|(ab){2,4}", "(a{2}){2}|(a{3}b){1,2}", "[^a]{2,}a{3,4}b?",
		".*(a|[ab]){3}", ".*a(a?b|a.){2,4}", ".*a(a?b|ab){3,}", "(.*a(a?(b{2}|b)|a.){2,4})*", ".*(a?[ab]){2,4}", "(a|[ab]|b{2}){3,5}", ".*(a{1,3}|b){2,3}b?", ".*a{2,3}{2,}", ".*(a{2,}b?){2,4}", "((a{1,2}b?){2,}a|b){2,3}", "a{1,2}{1,2}{1,2}{1,2}", "(((a{2,}b?){2,}b?){2,}a?){2,}", "(a{2,3}b{1,2}){1,3}|(ab?){2,}", "(.{2}|a){3,}b{2}", "(((ab?){2,}|b){2,3}a)*", "[a-m]{3}[k-z]", "([a-c]{1,2}[c-e]){2,3}|([a-e]{3})*", `(\x00|[\x01-\xfe]{2}){2}\xff?`,
		"(a{3,}b?){2,4}|b{2,}", "a{140}", "(a{1,90})*", "a{5}{6}{2}", "a{1,5}{1,3}{1,2}", nested,
	}
}

// P14.1 to P14.3: of expressions that count further, and of words that are somewhat longer.
func TestCounted(t *testing.T) {
	all := words("ab", 8)
	for _, text := range counted() {
		a := auto(t, text)
		x, within := holds(t, text, a, 600)
		if !within {
			t.Errorf("%q has more states", text)
			continue
		}
		for _, word := range all {
			runs(t, text, a, x, word)
		}
	}
}

// P14.1: bounds beyond all budgets, and beyond each other.
func TestGreat(t *testing.T) {
	for _, text := range []string{
		"a{2147483647}", "a{2147483647,}", "a{2,2147483647}b", "(a{2147483647,}|b){2147483646,}", "(a{1,2147483647}b?){2,2147483647}", "((a?b{0,2147483647}){2147483647})*", "(a{3,}b?){1000,2000}|b{2,}", "((([ab]{1,40}){1,50}){1,60}){1,70}", "(((a+b?){2}){1,2147483647}b){0,2147483647}", "(a{2147483647}b{2147483647}){2147483647,}", ".*a.{2147483647}",
	} {
		if x, within := holds(t, text, auto(t, text), 24); within {
			t.Errorf("%q has %d states", text, len(x.States))
		}
	}
	for _, text := range []string{"(a*){2147483647,}", "(a{0}|b?){2147483647,}", "a{0,1}{2147483647,}"} {
		if x, _ := holds(t, text, auto(t, text), 24); len(x.States) != 3 || !x.Accepts[0] {
			t.Errorf("%q has %d states", text, len(x.States))
		}
	}
}

// byBits is the automaton of rows of bytes of eight sets, one behind the other, that tell all bytes apart.
func byBits(t *testing.T) moves.Auto {
	t.Helper()
	n := api.Node{Kind: 2}
	for bit := range 8 {
		var s api.Class
		for b := range 256 {
			if b>>bit&1 == 1 {
				s = class.Or(s, class.Of(byte(b)))
			}
		}
		n.Parts = append(n.Parts, repeat(api.Node{Kind: 1, Set: s}, 0, -1))
	}
	a, e := moves.Make(n)
	if e != api.OK {
		t.Fatal(e)
	}
	return a
}

// P14.1, P14.2: as many letters as there are bytes: each combination of positions is behind one byte.
func TestAllBytesApart(t *testing.T) {
	a := byBits(t)
	x, within := holds(t, "by bits", a, api.MaxStates)
	if !within || len(x.Letters.Sets) != 256 || len(x.States) != 257 {
		t.Fatal(len(x.Letters.Sets), len(x.States))
	}
	for b := range 256 {
		if at := x.At([]byte{byte(b)}); at != b+1 || len(x.States[at]) != bits.OnesCount(uint(b)) {
			t.Errorf("behind the byte %d is %d, with %v", b, at, x.States[at])
		}
		for other := range 256 {
			runs(t, "by bits", a, x, []byte{byte(b), byte(other)})
		}
	}
}

// P14.1, P14.2: as many positions, scopes around them, and moves as may be.
func TestMostPlaces(t *testing.T) {
	text := strings.Repeat("a?", api.MaxPlaces)
	for range api.MaxScopes {
		text = "((" + text + "){0,2})*"
	}
	a := auto(t, text)
	x, within := holds(t, text, a, 200)
	if !within {
		t.Fatal("more states than there are")
	}
	for many := range 10 {
		runs(t, text, a, x, as(many))
	}
	if l := x.States[x.At(as(99))]; len(l) != 16*api.MaxPlaces || l[0] != at(1, 1, 1, 1, 1) || l[len(l)-1] != at(40, 2, 2, 2, 2) {
		t.Error(len(l))
	}
}

// picker picks numbers from 0 up to, but not with, another: in each run of the tests the same ones.
func picker() func(below int) int {
	state := uint64(14)
	return func(below int) int {
		state = state*6364136223846793005 + 1442695040888963407
		return int((state >> 33) % uint64(below))
	}
}

// anySet is a set of some ranges of bytes, or of all but these; their ends are few, so that sets meet.
func anySet(pick func(int) int) api.Class {
	ends := []byte{0, 1, 63, 64, 'a', 'b', 'd', 'h', 127, 128, 191, 192, 254, 255}
	var s api.Class
	for range 1 + pick(3) {
		lo, hi := ends[pick(len(ends))], ends[pick(len(ends))]
		s = class.Or(s, class.Range(min(lo, hi), max(lo, hi)))
	}
	switch pick(12) {
	case 0:
		return api.Class{}
	case 1, 2, 3:
		return class.Not(s)
	}
	return s
}

// anyTree is a tree that is at most so deep.
func anyTree(pick func(int) int, deep int) api.Node {
	kind := pick(8)
	if deep == 1 || kind < 2 {
		if kind == 7 {
			return api.Node{}
		}
		return api.Node{Kind: 1, Set: anySet(pick)}
	}
	if kind < 6 {
		n := api.Node{Kind: 2 + kind%2}
		for range 2 + pick(2) {
			n.Parts = append(n.Parts, anyTree(pick, deep-1))
		}
		return n
	}
	bounds := [][2]int64{{0, -1}, {1, -1}, {0, 1}, {2, 2}, {1, 3}, {2, -1}, {0, 5}, {3, api.MaxBound}}
	b := bounds[pick(len(bounds))]
	return repeat(anyTree(pick, deep-1), b[0], b[1])
}

// longer is a word with one byte more: one that doesn't lead to the state of no configs, if there is one.
func longer(x Table, word []byte, pick func(int) int) []byte {
	from := pick(256)
	for i := range 256 {
		next := append(slices.Clone(word), byte(from+i))
		if len(x.States[x.At(next)]) > 0 {
			return next
		}
	}
	return append(slices.Clone(word), byte(from))
}

// P14.1 to P14.3: of some thousand trees of many letters the whole tables, and words of all bytes, most of which lead on: the tables tell of them what layers 8 and 10 tell.
func TestAny(t *testing.T) {
	pick := picker()
	tables, beyond, matched, unmatched := 0, 0, 0, 0
	for range 2000 {
		n := anyTree(pick, 1+pick(5))
		a, e := moves.Make(n)
		if e != api.OK {
			continue
		}
		x, within := holds(t, show.Text(n), a, 60)
		if !within {
			beyond++
			continue
		}
		tables++
		var word []byte
		for range 12 {
			word = longer(x, word, pick)
			runs(t, show.Text(n), a, x, word)
			m := stream.New(a)
			m.Feed(word)
			if m.Accepts() != x.Run(word) || !slices.Equal(m.Behind(), x.States[x.At(word)]) {
				t.Errorf("%q: %q is matched as bytes come: %v", show.Text(n), word, m.Accepts())
			}
			if x.Run(word) {
				matched++
			} else {
				unmatched++
			}
		}
	}
	// Tables of nothing, or words that all are alike, would tell little.
	if tables < 1000 || beyond < 100 || matched < 3000 || unmatched < 3000 {
		t.Errorf("%d tables, %d beyond, %d words matched, %d not", tables, beyond, matched, unmatched)
	}
}
