package span

import (
	"math/bits"
	"regexp"
	"runtime/debug"
	"slices"
	"strings"
	"testing"

	"ostinato/api"
	"ostinato/class"
	"ostinato/core"
	"ostinato/moves"
	"ostinato/naive"
	"ostinato/show"
	"ostinato/stream"
)

// isWord tells whether a word is one of a tree's: the chapter's words, cut by cut.
func isWord(n api.Node, word string) bool {
	switch n.Kind {
	case 0:
		return word == ""
	case 1:
		return len(word) == 1 && class.Has(n.Set, word[0])
	case 2:
		return isCut(n.Parts, word)
	case 3:
		return slices.ContainsFunc(n.Parts, func(p api.Node) bool { return isWord(p, word) })
	}
	// Words of some bytes are all that matter: empty ones may be put between as many as are missing, if there is an empty one.
	part := n.Parts[0]
	for times := range int64(len(word) + 1) {
		enough := times >= n.Lo || isWord(part, "")
		if enough && (n.Hi == -1 || times <= n.Hi) && isTimes(part, word, times) {
			return true
		}
	}
	return false
}

// isCut tells whether a word can be cut into words of those, in order.
func isCut(parts []api.Node, word string) bool {
	if len(parts) == 0 {
		return word == ""
	}
	for at := range len(word) + 1 {
		if isWord(parts[0], word[:at]) && isCut(parts[1:], word[at:]) {
			return true
		}
	}
	return false
}

// isTimes tells whether a word can be cut into so many words of a tree, none of them empty.
func isTimes(n api.Node, word string, times int64) bool {
	if times == 0 || word == "" {
		return times == 0 && word == ""
	}
	for at := 1; at <= len(word); at++ {
		if isWord(n, word[:at]) && isTimes(n, word[at:], times-1) {
			return true
		}
	}
	return false
}

// words are all words of a and b with at most so many bytes.
func words(most int) []string {
	l := []string{""}
	for i := 0; len(l[i]) < most; i++ {
		l = append(l, l[i]+"a", l[i]+"b")
	}
	return l
}

// grown are trees made of one, or of two of some.
func grown(of []api.Node) []api.Node {
	var l []api.Node
	for _, x := range of {
		for _, b := range [][2]int64{{0, -1}, {0, 1}, {0, 0}, {1, -1}, {2, 2}, {2, -1}, {1, 3}, {3, api.MaxBound}} {
			l = append(l, repeat(x, b[0], b[1]))
		}
		for _, y := range of {
			l = append(l, cats(x, y), alts(x, y), cats(y, x, y))
		}
	}
	return l
}

// small are the least trees, and those that are made of these.
func small() []api.Node {
	least := []api.Node{{}, one(""), one("a"), one("b"), one("ab")}
	return append(grown(least), least...)
}

// each does something with trees of which each has some in it, and with deeper ones.
func each(do func(i int, n api.Node)) {
	few := small()
	all := append(grown(few), few...)
	for i, n := range all {
		do(i, n)
		x, y := all[(7*i+3)%len(all)], all[(11*i+5)%len(all)]
		switch i % 12 {
		case 0:
			do(i, cats(repeat(alts(n, x), 2, 3), repeat(y, 0, 1)))
		case 4:
			do(i, repeat(cats(y, repeat(repeat(x, 1, -1), 2, -1), repeat(n, 0, 2)), 1, -1))
		case 8:
			do(i, repeat(alts(cats(x, repeat(n, 3, -1)), repeat(y, 0, -1)), int64(i%3), 4))
		}
	}
}

// P11.1: of some fifty thousand trees, what is reached between all places of a word that has all short ones in it, against the chapter's words.
func TestGrown(t *testing.T) {
	const all = "aaabbbabaa"
	short := words(3)
	each(func(i int, n api.Node) {
		is := map[string]int{}
		for _, w := range short {
			if isWord(n, w) {
				is[w] = 1
			}
		}
		for from, row := range spans(t, n, all) {
			for to := from; to <= min(from+3, len(all)); to++ {
				if got := row[to]; got != (is[all[from:to]] == 1) {
					t.Errorf("%q reaches from %d to %d in %q: %v", show.Text(n), from, to, all, got)
				}
			}
		}
		if l := spans(t, n, ""); l[0][0] != (is[""] == 1) {
			t.Errorf("%q has the empty word: %v", show.Text(n), l[0][0])
		}
	})
}

// P11.1: what stands between two places is a word by itself, just if the tree reaches the one from the other.
func TestBetween(t *testing.T) {
	const word = "abbaaab"
	each(func(i int, n api.Node) {
		if i%29 > 0 {
			return
		}
		for from, row := range spans(t, n, word) {
			for to := from; to <= len(word); to++ {
				if is, e := Is(n, []byte(word[from:to])); e != api.OK || is != row[to] {
					t.Errorf("%q: %q is one: %v, in %q: %v", show.Text(n), word[from:to], is, word, row[to])
				}
			}
		}
	})
}

// P11.2: the simple tree has the same words, and these are what layers 8 and 10 match.
func TestFollows(t *testing.T) {
	short := words(4)
	each(func(i int, n api.Node) {
		const word = "aaaabbbbabaabba"
		s, e := core.Simple(n)
		if e != api.OK {
			t.Fatal(show.Text(n), e)
		}
		if l := spans(t, n, word); !slices.EqualFunc(l, spans(t, s, word), slices.Equal) {
			t.Errorf("%q and %q reach other places", show.Text(n), show.Text(s))
		}
		if core.Nullable(n) != spans(t, n, "")[0][0] {
			t.Errorf("%q: nullable is %v", show.Text(n), core.Nullable(n))
		}
		if core.Void(n) && slices.ContainsFunc(spans(t, n, word), func(row []bool) bool { return slices.Contains(row, true) }) {
			t.Errorf("%q is void, and has words", show.Text(n))
		}
		if i%7 > 0 {
			return
		}
		a := automaton(t, n)
		for _, w := range short {
			isMatched(t, n, a, w)
		}
	})
}

// isMatched fails, if layers 8 and 10 tell something else of a word than its tree.
func isMatched(t *testing.T, n api.Node, a moves.Auto, word string) {
	t.Helper()
	is, e := Is(n, []byte(word))
	if e != api.OK {
		t.Error(show.Text(n), e)
	}
	m := stream.New(a)
	m.Feed([]byte(word))
	if naive.Match(a, []byte(word)) != is || m.Accepts() != is {
		t.Errorf("%q: %q is one: %v; matched: %v, %v", show.Text(n), word, is, naive.Match(a, []byte(word)), m.Accepts())
	}
}

// counted are expressions whose repeated nodes are in each other, follow each other, and are nullable, or not.
func counted() []string {
	return []string{
		"", "~", "a{2,3}a", "(a{2,3}b?){2}", "(a{1,2}){1,3}", "((a{2}b?){2}b?){2}", "(a{2,}b?){2,}", "((a{2})+){2,}b", "(a{3}|b{2,4}){2,3}", "((a|b{2}){3})*", "(((a{1,2}b?){1,2}b?){1,2}a?){1,2}", "(a*b){3,4}", "([ab]{2}){3,}", "((a?b){2,3}){2}a{0,2}", "(a|ab)(b|bab)*", ".*a.{5}", "((a?b?){2,4}){1,2}", "((a|ba){2,3}b?){2,}a?", "(a{0,3}b{0,3}){2}", "((aa|aaa)*b){1,2}", "a{7}|b{5,}|(ab){2,4}", "(a{2}){2}|(a{3}b){1,2}", "[^a]{2,}a{3,4}b?", "(.{7}){0,9}(a|b{2})*", "(ab|b{3}a{2}){11,13}", "(.*b){2}.{17}", "((a|b){6}){5,8}a{1,3}", "(((a{1,2}b?){1,2}){1,3}){2}",
	}
}

// great are expressions with bounds beyond all words.
func great() []string {
	return []string{
		"a{2147483647}", "a{2,2147483647}b", "(a{2147483647,}|b){2147483646,}", "(a{1,2147483647}b?){2,2147483647}", "((a?b{0,2147483647}){2147483647})*", "(((a+b?){2}){1,2147483647}b){0,2147483647}", "(a{3,}b?){1000,2000}|b{2,}", "a{0,2147483647}{2147483647,}", "((a|bb){0,1000000}ab?){3,1000000007}",
	}
}

// automaton is a tree's.
func automaton(t *testing.T, n api.Node) moves.Auto {
	t.Helper()
	a, e := moves.Make(n)
	if e != api.OK {
		t.Fatal(show.Text(n), e)
	}
	return a
}

// P11.1: words that count further; another reader of expressions tells whether they are words.
func TestCounted(t *testing.T) {
	middle := words(9)
	for _, text := range counted() {
		n, is := read(t, text), regexp.MustCompile("^(?:"+strings.ReplaceAll(text, "~", `[^\x00-\x{10ffff}]`)+")$")
		for _, w := range middle {
			if got, e := Is(n, []byte(w)); e != api.OK || got != is.MatchString(w) {
				t.Errorf("%q: %q is one: %v, error %d", text, w, got, e)
			}
		}
	}
}

// P11.2: words that count further, and bounds beyond all words, are matched just so.
func TestMatched(t *testing.T) {
	middle := words(6)
	for _, text := range append(counted(), great()...) {
		n := read(t, text)
		a := automaton(t, n)
		for _, w := range middle {
			isMatched(t, n, a, w)
		}
	}
}

// long are words of 200 bytes.
func long() []string {
	return []string{as(200), strings.Repeat("ab", 100), strings.Repeat("aab", 70)[:200], strings.Repeat("aabbbaaaab", 20), strings.Repeat(as(19)+"b", 10), strings.Repeat("b", 77) + as(123), as(100) + "c" + as(99)}
}

// P11.2: between all places of words of 200 bytes just what layer 10 matches, byte by byte from each place on.
func TestLong(t *testing.T) {
	for _, text := range append(counted(), great()...) {
		n := read(t, text)
		a := automaton(t, n)
		s, _ := core.Simple(n)
		for _, word := range long() {
			l := spans(t, n, word)
			if !slices.EqualFunc(l, spans(t, s, word), slices.Equal) {
				t.Errorf("%q and %q reach other places in %q", text, show.Text(s), word)
			}
			for from := 0; from < len(word); from += 23 {
				m := stream.New(a)
				for to := from; ; to++ {
					if m.Accepts() != l[from][to] {
						t.Errorf("%q in %q: from %d to %d, matched: %v", text, word, from, to, m.Accepts())
					}
					if to == len(word) || m.Dead() {
						break
					}
					m.Feed([]byte{word[to]})
				}
			}
		}
	}
}

// deep puts a tree into others, so many times.
func deep(n api.Node, times int, into func(n api.Node, i int) api.Node) api.Node {
	for i := range times {
		n = into(n, i)
	}
	return n
}

// R1: trees that are deeper than calls may be, and wide ones, in words of whatever length.
func TestVeryDeep(t *testing.T) {
	defer debug.SetMaxStack(debug.SetMaxStack(1 << 20))
	const depth = 20000
	a, b, c := one("a"), one("b"), one("c")
	fifty := strings.Repeat("abb", 17)[:50]
	for name, d := range map[string]struct {
		n    api.Node
		word string
		want bool
	}{
		"stars":               {deep(a, depth, func(n api.Node, i int) api.Node { return repeat(n, 0, -1) }), as(70), true},
		"great bounds":        {deep(a, depth, func(n api.Node, i int) api.Node { return repeat(n, 1, api.MaxBound) }), as(70), true},
		"once":                {deep(a, depth, func(n api.Node, i int) api.Node { return repeat(n, 1, 1) }), "a", true},
		"too many":            {deep(a, depth, func(n api.Node, i int) api.Node { return repeat(n, 2, 2) }), as(200), false},
		"nothing":             {deep(api.Node{}, depth, func(n api.Node, i int) api.Node { return repeat(cats(n, api.Node{}), 1, 2) }), "", true},
		"to the left":         {deep(a, depth, func(n api.Node, i int) api.Node { return cats(n, repeat(b, 0, 1)) }), "a" + strings.Repeat("b", 199), true},
		"to the right":        {deep(a, depth, func(n api.Node, i int) api.Node { return cats(repeat(b, 0, 1), n) }), strings.Repeat("b", 199) + "a", true},
		"to both":             {deep(a, depth, func(n api.Node, i int) api.Node { return cats(repeat(b, 0, 1), n, repeat(c, 0, 1)) }), "bbbacc", true},
		"alts, left":          {deep(a, depth, func(n api.Node, i int) api.Node { return alts(n, b) }), "b", true},
		"alts, right":         {deep(a, depth, func(n api.Node, i int) api.Node { return alts(b, n) }), "a", true},
		"by turns, left":      {deep(a, depth, func(n api.Node, i int) api.Node { return cats(alts(n, b), a) }), as(200), false},
		"by turns, right":     {deep(a, depth, func(n api.Node, i int) api.Node { return alts(c, cats(b, n)) }), strings.Repeat("b", 199) + "c", true},
		"by turns, repeated":  {deep(a, 4000, func(n api.Node, i int) api.Node { return cats(repeat(alts(b, n), 0, 3), repeat(a, 0, 1)) }), fifty, true},
		"wide":                {cats(slices.Repeat([]api.Node{repeat(alts(a, cats(b, b)), 0, 2)}, depth)...), as(17) + strings.Repeat("bb", 20) + as(23), true},
		"wide, of one kind":   {alts(slices.Repeat([]api.Node{cats(a, b, a)}, depth)...), "aba", true},
		"wide, nothing of it": {alts(slices.Repeat([]api.Node{cats(a, b, a)}, depth)...), "ab", false},
	} {
		is, e := Is(d.n, []byte(d.word))
		if e != api.OK || is != d.want {
			t.Errorf("%s: %q is one: %v, error %d", name, d.word, is, e)
		}
	}
	wrong := deep(api.Node{Kind: 5}, depth, func(n api.Node, i int) api.Node { return cats(n, a) })
	fails(t, wrong, []byte("a"), api.ErrArg)
}

// waiting is how many nodes of a tree have a relation at one time, at most.
func waiting(n api.Node) int {
	t := laid(&n)
	now, most := 0, 0
	for at := 0; ; {
		if part, more := t[at].next(); more {
			at = part
			continue
		}
		if t[at].made != nil {
			now--
		}
		if at == 0 {
			return most
		}
		t[at].made = nil
		outer := &t[t[at].outer]
		if outer.made == nil {
			now++
		}
		outer.put(at, staying(1))
		most = max(most, now)
		at = t[at].outer
	}
}

// R1: no more than a few relations of a tree are there at one time, however deep or wide it is, and wherever its depth is.
func TestFewRelations(t *testing.T) {
	a, b, c := one("a"), one("b"), one("c")
	const depth = 20000
	for name, n := range map[string]api.Node{
		"to the left":   deep(a, depth, func(n api.Node, i int) api.Node { return cats(n, alts(b, c)) }),
		"to the right":  deep(a, depth, func(n api.Node, i int) api.Node { return cats(alts(b, c), n) }),
		"in the middle": deep(a, depth, func(n api.Node, i int) api.Node { return cats(b, repeat(a, 0, -1), alts(a, n, b), c) }),
		"alts":          deep(a, depth, func(n api.Node, i int) api.Node { return alts(b, cats(a, repeat(n, 0, 1), b)) }),
		"wide":          alts(slices.Repeat([]api.Node{cats(a, repeat(b, 1, 2), c)}, depth)...),
		"even":          deep(a, 14, func(n api.Node, i int) api.Node { return cats(n, n) }),
		"even, of four": deep(a, 7, func(n api.Node, i int) api.Node { return alts(n, cats(n, n), n) }),
	} {
		size := len(laid(&n))
		if most := waiting(n); most > bits.Len(uint(size)) {
			t.Errorf("%s: %d relations at one time, of %d nodes", name, most, size)
		}
		l := laid(&n)
		l.reached([]byte("a"))
		for at := range l {
			if at > 0 && l[at].made != nil {
				t.Fatalf("%s: of the node %d a relation is kept", name, at)
			}
		}
	}
}
