package naive

import (
	"regexp"
	"slices"
	"testing"

	"ostinato/api"
	"ostinato/class"
	"ostinato/config"
	"ostinato/moves"
	"ostinato/place"
	"ostinato/show"
	"ostinato/syntax"
)

// places are some of a word's places: the bit i is for the one ahead of its byte i.
type places uint64

// reached are the places that a tree reaches from some, told by its parts alone.
func reached(n api.Node, word string, from places) places {
	to := places(0)
	switch n.Kind {
	case 0:
		return from
	case 1:
		for i := range len(word) {
			if from>>i&1 == 1 && class.Has(n.Set, word[i]) {
				to |= 1 << (i + 1)
			}
		}
	case 2:
		to = from
		for _, p := range n.Parts {
			to = reached(p, word, to)
		}
	case 3:
		for _, p := range n.Parts {
			to |= reached(p, word, from)
		}
	case 4:
		// More times than the word has bytes are all one: with an empty word nothing comes any more, without one nothing is left.
		enough := int64(len(word) + 1)
		for k := int64(0); k <= enough && (n.Hi == -1 || k <= n.Hi); k++ {
			if k >= min(n.Lo, enough) {
				to |= from
			}
			from = reached(n.Parts[0], word, from)
		}
	}
	return to
}

// longer are the places that a tree reaches from some by words that aren't empty.
func longer(n api.Node, word string, from places) places {
	to := places(0)
	for i := range len(word) {
		if from>>i&1 == 1 {
			to |= reached(n, word, 1<<i) &^ (1 << i)
		}
	}
	return to
}

// behind puts to a list the configs behind a word that end within a simple tree, told by its parts alone: the tree is read from some places on, behind so many positions, within scopes that have such counts.
func behind(n api.Node, word string, from places, ahead int, counts []int64, l map[api.Config]int) {
	switch n.Kind {
	case 1:
		end := len(word) - 1
		if from>>end&1 == 1 && class.Has(n.Set, word[end]) {
			l[at(ahead+1, counts...)]++
		}
	case 2, 3:
		for _, p := range n.Parts {
			behind(p, word, from, ahead, counts, l)
			ahead += syntax.Places(p)
			if n.Kind == 2 {
				from = reached(p, word, from)
			}
		}
	case 4:
		// Each time that is counted takes a byte: what is nullable needn't be repeated.
		s, counted := place.Counts(n)
		for k := 1; k <= len(word) && (n.Hi == -1 || int64(k) <= n.Hi); k++ {
			within := slices.Clone(counts)
			if count := int64(k); counted && s.High == -1 {
				within = append(within, min(count, s.Low))
			} else if counted {
				within = append(within, count)
			}
			behind(n.Parts[0], word, from, ahead, within, l)
			from = longer(n.Parts[0], word, from)
		}
	}
}

// words are all words of a and b with at most so many bytes, a shorter one ahead of those that go on behind it.
func words(most int) []string {
	l := []string{""}
	for i := 0; len(l[i]) < most; i++ {
		l = append(l, l[i]+"a", l[i]+"b")
	}
	return l
}

// asked fails, if of an automaton's word something is told that isn't what the tree says; its answer is how many configs are behind the word.
func asked(t *testing.T, n api.Node, a moves.Auto, word string) int {
	t.Helper()
	want := map[api.Config]int{}
	if word != "" {
		behind(a.Map.Tree, word, 1, 0, nil, want)
	}
	l := Behind(a, []byte(word))
	for i, c := range l {
		if want[c] == 0 || i > 0 && config.Order(l[i-1], c) != -1 {
			t.Errorf("%q: behind %q %v, of which %v isn't the next one", show.Text(n), word, l, c)
		}
	}
	if len(l) != len(want) {
		t.Errorf("%q: behind %q %v, not %v", show.Text(n), word, l, want)
	}
	if got, is := Match(a, []byte(word)), reached(n, word, 1)>>len(word)&1 == 1; got != is {
		t.Errorf("%q: %q is matched: %v", show.Text(n), word, got)
	}
	return len(want)
}

// holds fails, if of a formed tree's words, that are handed in with those ahead of them, something is told that isn't what the tree says.
func holds(t *testing.T, n api.Node, l []string) {
	t.Helper()
	a, e := moves.Make(n)
	if e != api.OK {
		t.Fatal(show.Text(n), e)
	}
	most := map[string]int{}
	for _, word := range l {
		most[word] = asked(t, n, a, word)
		if word != "" {
			most[word] = max(most[word], most[word[:len(word)-1]])
		}
		if got := Most(a, []byte(word)); got != most[word] {
			t.Errorf("%q: behind %q most are %d, not %d", show.Text(n), word, got, most[word])
		}
	}
}

func repeat(n api.Node, lo, hi int64) api.Node {
	return api.Node{Kind: 4, Parts: []api.Node{n}, Lo: lo, Hi: hi}
}

func cats(l ...api.Node) api.Node {
	return api.Node{Kind: 2, Parts: l}
}

func alts(l ...api.Node) api.Node {
	return api.Node{Kind: 3, Parts: l}
}

// grown are trees made of one, or of two of some.
func grown(of []api.Node) []api.Node {
	var l []api.Node
	for _, x := range of {
		for _, b := range [][2]int64{{0, -1}, {0, 1}, {0, 0}, {1, -1}, {2, 2}, {2, -1}, {1, 3}} {
			l = append(l, repeat(x, b[0], b[1]))
		}
		for _, y := range of {
			l = append(l, cats(x, y), alts(x, y))
		}
	}
	return l
}

// P8.1, P8.2: of some thousand trees, and of deeper ones, the configs behind short words, and which of these are matched, are what the tree says, read part by part.
func TestGrown(t *testing.T) {
	one := func(l ...byte) api.Node { return api.Node{Kind: 1, Set: class.Of(l...)} }
	least := []api.Node{{}, one(), one('a'), one('b'), one('a', 'b')}
	small := append(grown(least), least...)
	all := append(grown(small), small...)
	short := words(4)
	for i, n := range all {
		x, y := all[(7*i+3)%len(all)], all[(11*i+5)%len(all)]
		if i%2 == 0 {
			holds(t, n, short)
		}
		switch i % 12 {
		case 0:
			holds(t, cats(repeat(alts(n, x), 2, 3), repeat(y, 0, 1)), short)
		case 4:
			holds(t, repeat(cats(y, repeat(repeat(x, 1, -1), 2, -1), repeat(n, 0, 2)), 1, -1), short)
		case 8:
			holds(t, repeat(alts(cats(x, repeat(n, 3, -1)), repeat(y, 0, -1)), int64(i%3), 4), short)
		}
	}
}

// P8.1, P8.2: of words that count further; that the trees are read as is meant, another reader tells.
func TestCounted(t *testing.T) {
	long := words(9)
	for _, text := range []string{
		"", "a{2,3}a", "(a{2,3}b?){2}", "(a{1,2}){1,3}", "((a{2}b?){2}b?){2}", "(a{2,}b?){2,}", "((a{2})+){2,}b", "(a{3}|b{2,4}){2,3}", "((a|b{2}){3})*", "(((a{1,2}b?){1,2}b?){1,2}a?){1,2}", "(a*b){3,4}", "([ab]{2}){3,}", "((a?b){2,3}){2}a{0,2}", "(a|ab)(b|bab)*", ".*a.{5}", "((a?b?){2,4}){1,2}", "((a|ba){2,3}b?){2,}a?", "(a{0,3}b{0,3}){2}", "((aa|aaa)*b){1,2}", "a{7}|b{5,}|(ab){2,4}", "(a{2}){2}|(a{3}b){1,2}", "[^a]{2,}a{3,4}b?",
	} {
		n, is := read(t, text), regexp.MustCompile("^(?:"+text+")$")
		holds(t, n, long)
		for _, word := range long {
			if got, want := reached(n, word, 1)>>len(word)&1 == 1, is.MatchString(word); got != want {
				t.Errorf("%q: %q is read: %v", text, word, got)
			}
		}
	}
}

// P8.1, P8.2: bounds beyond all words, and beyond each other.
func TestGreat(t *testing.T) {
	middle := words(6)
	for _, text := range []string{
		"a{2147483647}", "a{2,2147483647}b", "(a{2147483647,}|b){2147483646,}", "(a{1,2147483647}b?){2,2147483647}", "((a?b{0,2147483647}){2147483647})*", "(((a+b?){2}){1,2147483647}b){0,2147483647}", "(a{3,}b?){1000,2000}|b{2,}", "a{0,2147483647}{2147483647,}", "((([ab]{1,40}){1,50}){1,60}){1,70}", nested,
	} {
		holds(t, read(t, text), middle)
	}
}

// P8.1: of each byte, by all bytes ahead of some.
func TestBytes(t *testing.T) {
	for _, text := range []string{`\x00|[\x01-z]{2}|[^\x00-\x7f]{1,2}.`, `.{2,3}`, `[^\n]*\n?`, `(\xff|[\x80-\xff]){2,}`} {
		n := read(t, text)
		a, _ := moves.Make(n)
		for first := range 256 {
			asked(t, n, a, string([]byte{byte(first)}))
			for _, b := range []byte{0, '\n', 'a', 0x80, 0xff} {
				asked(t, n, a, string([]byte{byte(first), b}))
				asked(t, n, a, string([]byte{b, byte(first), b}))
			}
		}
	}
}
