package stream

import (
	"slices"
	"testing"

	"ostinato/api"
	"ostinato/class"
	"ostinato/moves"
	"ostinato/show"
)

// through feeds all words of some bytes, of at most so many, each byte to a clone of what was ahead of it, and holds them against layer 8.
func through(t *testing.T, text string, m *Matcher, word, bytes string, most int) {
	same(t, text, m, word)
	if len(word) == most {
		return
	}
	for _, b := range []byte(bytes) {
		next := m.Clone()
		next.Feed([]byte{b})
		through(t, text, next, word+string([]byte{b}), bytes, most)
	}
}

func repeat(n api.Node, lo, hi int64) api.Node {
	return api.Node{Kind: 4, Parts: []api.Node{n}, Lo: lo, Hi: hi}
}

func cats(l ...api.Node) api.Node {
	return api.Node{Kind: 2, Parts: l}
}

func alts(l ...api.Node) api.Node {
	return api.Node{Kind: 3, Parts: l}
}

// grown are trees made of one, or of two of some.
func grown(of []api.Node) []api.Node {
	var l []api.Node
	for _, x := range of {
		for _, b := range [][2]int64{{0, -1}, {0, 1}, {0, 0}, {1, -1}, {2, 2}, {2, -1}, {1, 3}} {
			l = append(l, repeat(x, b[0], b[1]))
		}
		for _, y := range of {
			l = append(l, cats(x, y), alts(x, y))
		}
	}
	return l
}

// holds fails, if of a tree's short words a matcher tells anything other than layer 8 does.
func holds(t *testing.T, n api.Node, most int) {
	t.Helper()
	a, e := moves.Make(n)
	if e != api.OK {
		t.Fatal(show.Text(n), e)
	}
	through(t, show.Text(n), New(a), "", "ab", most)
}

// P10.1: of some thousand trees, and of deeper ones, all that is told behind short words.
func TestGrown(t *testing.T) {
	one := func(l ...byte) api.Node { return api.Node{Kind: 1, Set: class.Of(l...)} }
	least := []api.Node{{}, one(), one('a'), one('b'), one('a', 'b')}
	small := append(grown(least), least...)
	all := append(grown(small), small...)
	for i, n := range all {
		x, y := all[(7*i+3)%len(all)], all[(11*i+5)%len(all)]
		if i%3 == 0 {
			holds(t, n, 4)
		}
		switch i % 12 {
		case 0:
			holds(t, cats(repeat(alts(n, x), 2, 3), repeat(y, 0, 1)), 4)
		case 4:
			holds(t, repeat(cats(y, repeat(repeat(x, 1, -1), 2, -1), repeat(n, 0, 2)), 1, -1), 4)
		case 8:
			holds(t, repeat(alts(cats(x, repeat(n, 3, -1)), repeat(y, 0, -1)), int64(i%3), 4), 4)
		}
	}
}

// counted are expressions whose counts come together, go different ways, end and stay.
func counted() []string {
	return []string{
		"", "~", "a{2,3}a", "(a{2,3}b?){2}", "(a{1,2}){1,3}", "((a{2}b?){2}b?){2}", "(a{2,}b?){2,}", "((a{2})+){2,}b", "(a{3}|b{2,4}){2,3}", "((a|b{2}){3})*", "(((a{1,2}b?){1,2}b?){1,2}a?){1,2}", "(a*b){3,4}", "([ab]{2}){3,}", "((a?b){2,3}){2}a{0,2}", "(a|ab)(b|bab)*", ".*a.{5}", "((a?b?){2,4}){1,2}", "((a|ba){2,3}b?){2,}a?", "(a{0,3}b{0,3}){2}", "((aa|aaa)*b){1,2}", "a{7}|b{5,}|(ab){2,4}", "(a{2}){2}|(a{3}b){1,2}", "[^a]{2,}a{3,4}b?",
		".*(a|[ab]){3}", ".*a(a?b|a.){2,9}", ".*a(a?b|ab){3,}", "(.*a(a?(b{2}|b)|a.){2,4})*", ".*(a?[ab]){2,4}", ".*(a?[ab]){3,}", "(a|[ab]|b{2}){3,5}", ".*(a{1,3}|b){2,3}b?", ".*a{2,3}{2,}", ".*(a{2,}b?){2,4}", ".*([ab]{2,3}a?){2,}", "((a{1,2}b?){2,}a|b){2,3}", "a{1,2}{1,2}{1,2}{1,2}", "(((a{2,}b?){2,}b?){2,}a?){2,}", ".*((a{1,2}|b){1,2}[ab]?){1,3}", "(a{2,3}b{1,2}){1,3}|(ab?){2,}", "(.{2}|a){3,}b{2}", "(((ab?){2,}|b){2,3}a)*",
		"a{2147483647}", "a{2,2147483647}b", "(a{2147483647,}|b){2147483646,}", "(a{1,2147483647}b?){2,2147483647}", "((a?b{0,2147483647}){2147483647})*", "(((a+b?){2}){1,2147483647}b){0,2147483647}", "(a{3,}b?){1000,2000}|b{2,}", "a{0,2147483647}{2147483647,}", "((([ab]{1,40}){1,50}){1,60}){1,70}", nested,
	}
}

// P10.1: byte by byte, of all words that are somewhat longer.
func TestCounted(t *testing.T) {
	for _, text := range counted() {
		through(t, text, of(t, text), "", "ab", 8)
	}
}

// P10.1: of each byte, by all bytes ahead of some.
func TestBytes(t *testing.T) {
	for _, text := range []string{`\x00|[\x01-z]{2}|[^\x00-\x7f]{1,2}.`, `.{2,3}`, `[^\n]*\n?`, `(\xff|[\x80-\xff]){2,}`} {
		for first := range 256 {
			m := of(t, text)
			m.Feed([]byte{byte(first)})
			through(t, text, m, string([]byte{byte(first)}), "\x00\na\x80\xff", 3)
		}
	}
}

// mixed tells numbers below others, each time the same ones.
func mixed() func(below int) int {
	state := uint64(12345)
	return func(below int) int {
		state = state*6364136223846793005 + 1442695040888963407
		return int((state >> 33) % uint64(below))
	}
}

// cuts are a word's bytes in chunks, some of them empty.
func cuts(word []byte, pick func(int) int) [][]byte {
	var l [][]byte
	for len(word) > 0 {
		n := min(len(word), pick(5))
		l = append(l, word[:n:n])
		word = word[n:]
	}
	return l
}

// P10.1, P10.2: longer words, most of which stay alive, in whatever chunks, fed at once or not, by clones or not. (Where very many configs are behind, layer 8 takes too long: there a word ends.)
func TestLonger(t *testing.T) {
	pick := mixed()
	for _, text := range counted() {
		a := auto(t, text)
		for range 12 {
			m, word := New(a), []byte(nil)
			for len(word) < 60 && !m.Dead() && len(m.Behind()) < 300 {
				part := alive(m, pick)
				if pick(3) == 0 {
					m = m.Clone()
				}
				l := cuts(part, pick)
				at := pick(len(l) + 1)
				m.Feed(l[:at]...)
				m.Feed(l[at:]...)
				word = append(word, part...)
				same(t, text, m, string(word))
			}
			whole := New(a)
			whole.Feed(word)
			if !slices.Equal(whole.Behind(), m.Behind()) || whole.Accepts() != m.Accepts() || whole.Dead() != m.Dead() || whole.Taken() != m.Taken() {
				t.Errorf("%q: of %q at once %v is behind, and of it in chunks %v", text, word, whole.Behind(), m.Behind())
			}
		}
	}
}

// alive are some bytes, each of which leads somewhere behind a matcher, if one does.
func alive(m *Matcher, pick func(int) int) []byte {
	var part []byte
	for range 1 + pick(6) {
		bytes := []byte("abcde")
		from := pick(len(bytes))
		bytes = append(bytes[from:], bytes[:from]...)
		lead := slices.IndexFunc(bytes, func(b byte) bool {
			next := m.Clone()
			next.Feed(part, []byte{b})
			return !next.Dead()
		})
		part = append(part, bytes[max(0, lead)])
	}
	return part
}

// P10.2: a word cut in all ways.
func TestAllCuts(t *testing.T) {
	for _, text := range []string{"(a{2,3}b?){2}c", ".*a.{3}", "(a?[ab]c?){2,}", nested} {
		word := []byte("aabaaacab")
		for ways := range 1 << (len(word) - 1) {
			m, chunks, from := of(t, text), [][]byte(nil), 0
			for i := range word {
				if i == len(word)-1 || ways>>i&1 == 1 {
					chunks = append(chunks, word[from:i+1])
					from = i + 1
				}
			}
			m.Feed(chunks...)
			same(t, text, m, string(word))
			single := of(t, text)
			for i, chunk := range chunks {
				if i%2 == 0 {
					single.Feed()
				}
				single.Feed(chunk)
			}
			same(t, text, single, string(word))
		}
	}
}
