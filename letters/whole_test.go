package letters

import (
	"slices"
	"testing"

	"ostinato/api"
	"ostinato/class"
	"ostinato/moves"
	"ostinato/naive"
	"ostinato/show"
	"ostinato/stream"
)

// alike fails, if a word and its plain one aren't matched alike by one of some automata, by all configs or as bytes come; its answer is how many match it.
func alike(t *testing.T, name any, x Letters, l []moves.Auto, word []byte) int {
	t.Helper()
	told(t, x, word)
	plain, matched := x.Plain(word), 0
	for i, a := range l {
		m, n := stream.New(a), stream.New(a)
		m.Feed(word)
		n.Feed(plain)
		is := naive.Match(a, word)
		if naive.Match(a, plain) != is || m.Accepts() != is || n.Accepts() != is || m.Dead() != n.Dead() {
			t.Errorf("%q: the automaton %d matches %q: %v, %v; and plainly %q: %v, %v", name, i, word, is, m.Accepts(), plain, naive.Match(a, plain), n.Accepts())
		}
		if !slices.Equal(m.Behind(), n.Behind()) {
			t.Errorf("%q: the automaton %d is at %v behind %q, and at %v behind %q", name, i, m.Behind(), word, n.Behind(), plain)
		}
		if is {
			matched++
		}
	}
	return matched
}

// P13.3: words that are matched, and words that aren't, by one automaton or several.
func TestAlike(t *testing.T) {
	for _, c := range []struct {
		texts       []string
		word, plain string
		matched     int
	}{
		{nil, "abc", "\x00\x00\x00", 0}, {[]string{""}, "", "", 1}, {[]string{""}, "b", "\x00", 0}, {[]string{"~"}, "a", "\x00", 0}, {[]string{".*"}, "abc", "\x00\x00\x00", 1}, {[]string{"a*", "b", ".?"}, "", "", 2},
		{[]string{"[a-m]{3}[k-z]"}, "cajz", "aaan", 1}, {[]string{"[a-m]{3}[k-z]"}, "klmm", "kkkk", 1}, {[]string{"[a-m]{3}[k-z]"}, "klnm", "kknk", 0}, {[]string{"[a-m]{3}[k-z]"}, "cajb", "aaaa", 0}, {[]string{"[a-m]{3}[k-z]"}, "caj\xff", "aaa\x00", 0},
		{[]string{"[^a]{2,}", "[b-y]*", "[a-z]+"}, "bzx", "bzb", 2}, {[]string{"[^a]{2,}", "[b-y]*", "[a-z]+"}, "ccc", "bbb", 3}, {[]string{"[^a]{2,}", "[b-y]*", "[a-z]+"}, "!!", "\x00\x00", 1}, {[]string{"[^a]{2,}", "[b-y]*", "[a-z]+"}, "!a", "\x00a", 0},
		{[]string{`\x00[\x01-\xff]`, `.\xff`}, "\x00\xff", "\x00\xff", 2}, {[]string{`\x00[\x01-\xff]`, `.\xff`}, "\x00\xfe", "\x00\x01", 1}, {[]string{`\x00[\x01-\xff]`, `.\xff`}, "\xfe\xff", "\x01\xff", 1}, {[]string{`\x00[\x01-\xff]`, `.\xff`}, "\xfe\x00", "\x01\x00", 0},
		{[]string{"([a-c]{1,2}[c-e]){2,3}", "([a-e]{3})*"}, "bbdace", "aadacd", 2}, {[]string{"([a-c]{1,2}[c-e]){2,3}", "([a-e]{3})*"}, "beae", "adad", 1}, {[]string{"([a-c]{1,2}[c-e]){2,3}", "([a-e]{3})*"}, "eee", "ddd", 1}, {[]string{"[a-e]{2147483647}", "[b-d]{0,2147483647}"}, "dcb", "bbb", 1},
	} {
		l := read(t, c.texts...)
		x := Make(l...)
		if plain := x.Plain([]byte(c.word)); string(plain) != c.plain {
			t.Errorf("%q: %q is plainly %q, not %q", c.texts, c.word, plain, c.plain)
		}
		if n := alike(t, c.texts, x, l, []byte(c.word)); n != c.matched {
			t.Errorf("%q: %q is matched by %d of them, not %d", c.texts, c.word, n, c.matched)
		}
	}
}

// P13.3: of each byte, alone, and beside others.
func TestAlikeBytes(t *testing.T) {
	l := read(t, `\x00|[\x01-z]{2}|[^\x00-\x7f]{1,2}.`, `.[a-m]?`, `[^\n]*\n?`, `(\xff|[\x80-\xff]){2,}`)
	x := Make(l...)
	holds(t, "bytes", x, l...)
	for first := range 256 {
		alike(t, "bytes", x, l, []byte{byte(first)})
		for _, b := range []byte{0, '\n', 'c', 0x80, 0xff} {
			alike(t, "bytes", x, l, []byte{byte(first), b})
			alike(t, "bytes", x, l, []byte{b, byte(first), b})
		}
	}
}

// picker picks numbers from 0 up to, but not with, another: in each run of the tests the same ones.
func picker() func(below int) int {
	state := uint64(13)
	return func(below int) int {
		state = state*6364136223846793005 + 1442695040888963407
		return int((state >> 33) % uint64(below))
	}
}

// end is a byte with which sets begin or end: few, so that sets meet.
func end(pick func(int) int) byte {
	ends := []byte{0, 1, 63, 64, 'a', 'b', 'd', 'h', 127, 128, 191, 192, 254, 255}
	return ends[pick(len(ends))]
}

// anySet is a set of some ranges of bytes, or of all but these.
func anySet(pick func(int) int) api.Class {
	var s api.Class
	for range 1 + pick(3) {
		lo, hi := end(pick), end(pick)
		s = class.Or(s, class.Range(min(lo, hi), max(lo, hi)))
	}
	switch pick(12) {
	case 0:
		return api.Class{}
	case 1, 2, 3:
		return class.Not(s)
	}
	return s
}

// anyTree is a tree that is at most so deep.
func anyTree(pick func(int) int, deep int) api.Node {
	kind := pick(8)
	if deep == 1 || kind < 2 {
		if kind == 7 {
			return api.Node{}
		}
		return api.Node{Kind: 1, Set: anySet(pick)}
	}
	if kind < 6 {
		n := api.Node{Kind: 2 + kind%2}
		for range 2 + pick(2) {
			n.Parts = append(n.Parts, anyTree(pick, deep-1))
		}
		return n
	}
	bounds := [][2]int64{{0, -1}, {1, -1}, {0, 1}, {2, 2}, {1, 3}, {2, -1}, {0, 5}, {3, api.MaxBound}}
	b := bounds[pick(len(bounds))]
	return api.Node{Kind: 4, Parts: []api.Node{anyTree(pick, deep-1)}, Lo: b[0], Hi: b[1]}
}

// longer is a word with one byte more: one by which an automaton goes on, if there is one. A matcher has taken the word.
func longer(m *stream.Matcher, word []byte, pick func(int) int) []byte {
	from := pick(256)
	for i := range 256 {
		b := byte(from + i)
		next := m.Clone()
		next.Feed([]byte{b})
		if !next.Dead() {
			m.Feed([]byte{b})
			return append(word, b)
		}
	}
	m.Feed([]byte{byte(from)})
	return append(word, byte(from))
}

// respelt is another word of the same letters, byte by byte.
func respelt(x Letters, word []byte, pick func(int) int) []byte {
	var l []byte
	for _, b := range word {
		s := x.Sets[x.Of[b]]
		other := byte(pick(256))
		for !class.Has(s, other) {
			other++
		}
		l = append(l, other)
	}
	return l
}

// anyAutos are one to three automata of trees, and what these are as texts.
func anyAutos(pick func(int) int) ([]moves.Auto, []string) {
	var l []moves.Auto
	var names []string
	for many := 1 + pick(3); len(l) < many; {
		n := anyTree(pick, 1+pick(5))
		if a, e := moves.Make(n); e == api.OK {
			l, names = append(l, a), append(names, show.Text(n))
		}
	}
	return l, names
}

// P13.1 to P13.3: of some thousand automata, one to three at once: their letters, and words by which one of them goes on, spelt anew, and plain.
func TestAny(t *testing.T) {
	pick := picker()
	words, matched, unmatched, other := 0, 0, 0, 0
	for range 2000 {
		l, names := anyAutos(pick)
		x := Make(l...)
		holds(t, names, x, l...)
		for _, a := range l {
			m, word := stream.New(a), []byte(nil)
			for len(word) < 8 && !m.Dead() && len(m.Behind()) < 100 {
				word = longer(m, word, pick)
				n := alike(t, names, x, l, word)
				same := respelt(x, word, pick)
				if alike(t, names, x, l, same) != n || !slices.Equal(x.Plain(same), x.Plain(word)) {
					t.Errorf("%q: %q and %q aren't alike", names, word, same)
				}
				words, matched, unmatched = words+1, matched+n, unmatched+len(l)-n
				if string(x.Plain(word)) != string(word) {
					other++
				}
			}
		}
	}
	// Words that nothing matches, or that are plain from the beginning on, would tell nothing.
	if words < 10000 || matched < 5000 || unmatched < 5000 || other < 5000 {
		t.Errorf("of %d words %d are matched, %d aren't, and %d aren't plain", words, matched, unmatched, other)
	}
}

// P13.3: words as long as may be, of automata that count further.
func TestAlikeLong(t *testing.T) {
	l := read(t, "([a-m]{2,3}[k-z]?){3,}", "[a-z]{2000}|[b-y]{3,}", ".*[f-h].{30}", "([a-e]{1,2147483647}[d-h]{2,}){2,}.*")
	x := Make(l...)
	holds(t, "long", x, l...)
	for _, part := range []string{"a", "abcxyz", "bbbbd", "lmnk", "fgh!", "zyxwvutsrqponmlkjihgfedcba"} {
		for _, many := range []int{1999, 2000, 2001} {
			alike(t, "long", x, l, slices.Repeat([]byte(part), many)[:many])
		}
	}
}
