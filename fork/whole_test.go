package fork

import (
	"slices"
	"strings"
	"testing"

	"ostinato/api"
	"ostinato/class"
	"ostinato/config"
	"ostinato/dfa"
	"ostinato/letters"
	"ostinato/moves"
	"ostinato/show"
)

// rights are all right configs of a position, rising.
func rights(a moves.Auto, position int) []api.Config {
	l := []api.Config{at(position)}
	for i, number := range a.Map.Around[position] {
		s := a.Map.Scopes[number]
		var more []api.Config
		for _, c := range l {
			for c.Count[i] = 1; c.Count[i] <= max(s.Low, s.High); c.Count[i]++ {
				more = append(more, c)
			}
		}
		l = more
	}
	return l
}

// together are those configs at which two moves may both be made.
func together(a moves.Auto, l []api.Config, x, y moves.Move) []api.Config {
	var both []api.Config
	for _, c := range l {
		_, may := config.May(a, c, x)
		if _, other := config.May(a, c, y); may && other {
			both = append(both, c)
		}
	}
	return both
}

// agrees fails, if what two moves of a position agree on isn't, of all its right configs, the one of the least counts at which they may both be made.
func agrees(t *testing.T, name string, a moves.Auto, l []api.Config, x, y moves.Move) {
	t.Helper()
	position := l[0].At
	both := together(a, l, x, y)
	if len(both) == 0 {
		agreeOn(t, name, a, position, x, y, api.Config{})
		return
	}
	least := both[0]
	for _, c := range both {
		for i, count := range c.Count {
			if count < least.Count[i] {
				t.Errorf("%q: at %d %v and %v have no least counts: %v", name, position, x, y, both)
			}
		}
	}
	agreeOn(t, name, a, position, x, y, least)
}

// bytesOf are the bytes that two positions both have, rising.
func bytesOf(a moves.Auto, x, y int) []byte {
	var l []byte
	for b := range 256 {
		if class.Has(a.Map.Sets[x], byte(b)) && class.Has(a.Map.Sets[y], byte(b)) {
			l = append(l, byte(b))
		}
	}
	return l
}

// shown is the first fork, and true, told by configs one by one, and bytes one by one.
func shown(a moves.Auto) (Fork, bool) {
	for i, x := range a.First {
		for _, y := range a.First[i+1:] {
			if l := bytesOf(a, x, y); len(l) > 0 {
				return Fork{To: [2]int{x, y}, Byte: l[0]}, true
			}
		}
	}
	for position := 1; position < len(a.Moves); position++ {
		l := rights(a, position)
		for i, x := range a.Moves[position] {
			for _, y := range a.Moves[position][i+1:] {
				bytes, both := bytesOf(a, x.To, y.To), together(a, l, x, y)
				if x.To != y.To && len(bytes) > 0 && len(both) > 0 {
					return Fork{At: both[0], To: [2]int{x.To, y.To}, Byte: bytes[0]}, true
				}
			}
		}
	}
	return Fork{}, false
}

// reached are all configs that are behind some word, each once; and whether from one of them, or at the beginning, a byte leads to two positions.
func reached(a moves.Auto) (map[api.Config]int, bool) {
	met, two := map[api.Config]int{}, false
	var queue []api.Config
	meet := func(l []api.Config) {
		for _, c := range l {
			two = two || c.At != l[0].At
			if met[c]++; met[c] == 1 {
				queue = append(queue, c)
			}
		}
	}
	x := letters.Make(a)
	for i := range x.Sets {
		b, _ := x.Byte(i)
		meet(config.Begin(a, b))
	}
	for len(queue) > 0 {
		c := queue[0]
		queue = queue[1:]
		for i := range x.Sets {
			b, _ := x.Byte(i)
			meet(config.Step(a, c, b))
		}
	}
	return met, two
}

// forks fails, if an automaton's first fork isn't the one that configs and bytes show, or isn't behind some word; or if it has none, and there a word leads to a config from which a byte may be taken to two positions.
func forks(t *testing.T, name string, a moves.Auto) (Fork, bool) {
	t.Helper()
	f, is := Find(a)
	if want, has := shown(a); f != want || is != has {
		t.Errorf("%q: %v %v, not %v %v", name, f, is, want, has)
	}
	met, two := reached(a)
	if is != two {
		t.Errorf("%q: %v %v, and words lead to one: %v", name, f, is, two)
	}
	for position := 1; position < len(a.Moves); position++ {
		for _, c := range rights(a, position) {
			if met[c] == 0 {
				t.Errorf("%q: %v is behind no word", name, c)
			}
			delete(met, c)
		}
	}
	if len(met) > 0 {
		t.Errorf("%q: %v are met, and not right", name, met)
	}
	if is {
		leads(t, name, a, f)
	}
	return f, is
}

// leads fails, if by a fork's byte its config, or the beginning, doesn't lead to both of its positions.
func leads(t *testing.T, name string, a moves.Auto, f Fork) {
	t.Helper()
	l := config.Begin(a, f.Byte)
	if f.At != (api.Config{}) {
		l = config.Step(a, f.At, f.Byte)
	}
	for _, to := range f.To {
		if !slices.ContainsFunc(l, func(c api.Config) bool { return c.At == to }) {
			t.Errorf("%q: %v doesn't lead to %d, but to %v", name, f, to, l)
		}
	}
}

// single fails, if of an automaton that has a table it isn't so that, just where it has no fork, and no two configs of one position are behind one word, there is one config at a time; its answer is whether it is so, and whether there is a table.
func single(t *testing.T, name string, a moves.Auto, fork bool) (bool, bool) {
	t.Helper()
	x, e := dfa.Make(a, 300)
	if e != api.OK {
		return false, false
	}
	one, blurred := true, false
	for _, l := range x.States {
		one = one && len(l) < 2
		for i := 1; i < len(l); i++ {
			blurred = blurred || l[i].At == l[i-1].At
		}
	}
	if one == (fork || blurred) {
		t.Errorf("%q: one config at a time: %v; a fork: %v; two configs of one position: %v", name, one, fork, blurred)
	}
	return one, true
}

// holds fails, if of an automaton with small bounds something is told that configs don't show.
func holds(t *testing.T, name string, a moves.Auto) (Fork, bool) {
	t.Helper()
	for position := 1; position < len(a.Moves); position++ {
		l := rights(a, position)
		for i, x := range a.Moves[position] {
			for _, y := range a.Moves[position][i:] {
				agrees(t, name, a, l, x, y)
			}
		}
	}
	f, is := forks(t, name, a)
	single(t, name, a, is)
	return f, is
}

func repeat(n api.Node, lo, hi int64) api.Node {
	return api.Node{Kind: 4, Parts: []api.Node{n}, Lo: lo, Hi: hi}
}

func cats(l ...api.Node) api.Node {
	return api.Node{Kind: 2, Parts: l}
}

func alts(l ...api.Node) api.Node {
	return api.Node{Kind: 3, Parts: l}
}

// grown are trees made of one, or of two of some.
func grown(of []api.Node) []api.Node {
	var l []api.Node
	for _, x := range of {
		for _, b := range [][2]int64{{0, -1}, {0, 1}, {0, 0}, {1, -1}, {2, 2}, {2, -1}, {1, 3}} {
			l = append(l, repeat(x, b[0], b[1]))
		}
		for _, y := range of {
			l = append(l, cats(x, y), alts(x, y))
		}
	}
	return l
}

// treeHolds fails, if of a tree's automaton something is told that configs don't show.
func treeHolds(t *testing.T, n api.Node) {
	t.Helper()
	a, e := moves.Make(n)
	if e != api.OK {
		t.Fatal(show.Text(n), e)
	}
	holds(t, show.Text(n), a)
}

// P15.1, P15.2: of some thousand trees, and of deeper ones.
func TestGrown(t *testing.T) {
	one := func(l ...byte) api.Node { return api.Node{Kind: 1, Set: class.Of(l...)} }
	least := []api.Node{{}, one(), one('a'), one('b'), one('a', 'b')}
	small := append(grown(least), least...)
	all := append(grown(small), small...)
	for i, n := range all {
		x, y := all[(7*i+3)%len(all)], all[(11*i+5)%len(all)]
		treeHolds(t, n)
		switch i % 12 {
		case 0:
			treeHolds(t, cats(repeat(alts(n, x), 2, 3), repeat(y, 0, 1)))
		case 4:
			treeHolds(t, repeat(cats(y, repeat(repeat(x, 1, -1), 2, -1), repeat(n, 0, 2)), 1, -1))
		case 8:
			treeHolds(t, repeat(alts(cats(x, repeat(n, 3, -1)), repeat(y, 0, -1)), int64(i%3), 4))
		}
	}
}

// counted are expressions with and without forks, that count further.
func counted() []string {
	return []string{
		"", "~", "a{2,3}a", "a{2}a", "a{2,}a", "(a{2,3}b?){2}", "(a{1,2}){1,3}", "((a{2}b?){2}b?){2}", "(a{2,}b?){2,}", "((a{2})+){2,}b", "(a{3}|b{2,4}){2,3}", "((a|b{2}){3})*", "(((a{1,2}b?){1,2}b?){1,2}a?){1,2}", "(a*b){3,4}", "([ab]{2}){3,}", "((a?b){2,3}){2}a{0,2}", "(a|ab)(b|bab)*", "((a?b?){2,4}){1,2}", "((a|ba){2,3}b?){2,}a?", "(a{0,3}b{0,3}){2}", "((aa|aaa)*b){1,2}", "a{7}|b{5,}|(ab){2,4}", "(a{2}){2}|(a{3}b){1,2}", "[^a]{2,}a{3,4}b?",
		"(ab?){3,}c", "(a{2}b){3}a", "(a?b{2,}){2,4}b", "(a{5}b{7}){9}a", "(a{5}b{7}){8,9}a", "a{2}{3}{4}{5}a", "a{2}{3}{4,5}a", "a{2,3}{3}{4}a", "((a{2}b){3}c){4}[abc]", "((a{2}b){3,}c){4}[abc]", "((a{2}b?){3}c?){4}a", "((a{2}b?){3}c?){4,}a", "((c{2}a?){3}a){4}", "(((ab?){2,}|b){2,3}a)*", "[a-m]{3}[k-z]", "([a-c]{1,2}[c-e]){2,3}|([a-e]{3})*", `(\x00|[\x01-\xfe]{2}){2}\xff?`, ".*(a{1,3}|b){2,3}b?", "(x(a{2,4}b?){2,3}){3}[abx]", "a{40}(b{20}a){3}", "a{20,40}(b{20}a){3}", nested, "((((a{2}b?){2}){3,}a?){3})*",
	}
}

// P15.1, P15.2: of expressions that count further.
func TestCounted(t *testing.T) {
	for _, text := range counted() {
		holds(t, text, auto(t, text))
	}
}

// P15.2: without a fork, and where no two configs of one word have one position, there is one config at a time; a fork, or two such configs, take that away.
func TestSingle(t *testing.T) {
	for _, c := range []struct {
		text      string
		fork, one bool
	}{
		{"", false, true}, {"a*b", false, true}, {"a{2}a", false, true}, {"a{2,9}", false, true}, {"(a{2}b{3,}){2,5}c", false, true}, {"(a{5}b{7}){9}a", false, true}, {"((a{2}b?){3}c?){4}", false, true}, {"(a|b|c{3}){2,}", false, true},
		{"a?a", true, false}, {"a{2,3}a", true, false}, {"(a{5}b{7}){8,9}a", true, false}, {"ab|ac", true, false}, {"(ba?c?[ab])*", true, false},
		{"(a{1,2}){1,3}", false, false}, {"(a{2,3})*", false, false}, {"(a{2,3}b?){2}", false, false}, {"(a{1,2}){3}a", true, false},
	} {
		a := auto(t, c.text)
		_, fork := Find(a)
		if one, known := single(t, c.text, a, fork); fork != c.fork || one != c.one || !known {
			t.Errorf("%q: a fork: %v, one config at a time: %v %v", c.text, fork, one, known)
		}
	}
}

// widened is a tree whose bounds above 1 are so much greater.
func widened(n api.Node, by int64) api.Node {
	n.Parts = slices.Clone(n.Parts)
	for i, part := range n.Parts {
		n.Parts[i] = widened(part, by)
	}
	if n.Kind == 4 && n.Lo > 1 {
		n.Lo += by
	}
	if n.Kind == 4 && n.Hi > 1 {
		n.Hi += by
	}
	return n
}

// wider is a config whose counts above 1 are so much greater.
func wider(c api.Config, by int64) api.Config {
	for i, count := range c.Count {
		if count > 1 {
			c.Count[i] += by
		}
	}
	return c
}

// hangs fails, if with bounds that are greater anything else is told of a tree than that counts are greater.
func hangs(t *testing.T, n api.Node, by int64) {
	t.Helper()
	a, e := moves.Make(n)
	b, f := moves.Make(widened(n, by))
	if e != api.OK || f != api.OK || !slices.EqualFunc(a.Moves, b.Moves, slices.Equal[[]moves.Move]) {
		t.Errorf("%q: %v, and %v of greater bounds", show.Text(n), e, f)
		return
	}
	want, has := Find(a)
	want.At = wider(want.At, by)
	if got, is := Find(b); got != want || is != has {
		t.Errorf("%q: with bounds that are greater %v %v, not %v %v", show.Text(n), got, is, want, has)
	}
	for position, l := range a.Moves {
		for i, x := range l {
			for _, y := range l[i:] {
				c, _ := Agree(a, position, x, y)
				agreeOn(t, show.Text(n), b, position, x, y, wider(c, by))
			}
		}
	}
}

// picker picks numbers from 0 up to, but not with, another: in each run of the tests the same ones.
func picker() func(below int) int {
	state := uint64(15)
	return func(below int) int {
		state = state*6364136223846793005 + 1442695040888963407
		return int((state >> 33) % uint64(below))
	}
}

// anySet is a set of a few bytes, or a range, or all but some.
func anySet(pick func(int) int) api.Class {
	ends := []byte{0, 63, 64, 'a', 'b', 'c', 191, 255}
	x, y := ends[pick(len(ends))], ends[pick(len(ends))]
	switch pick(40) {
	case 0:
		return api.Class{}
	case 1, 2, 3:
		return class.Range(min(x, y), max(x, y))
	case 4, 5:
		return class.Not(class.Range(min(x, y), max(x, y)))
	case 6, 7, 8, 9, 10:
		return class.Of(x, y)
	}
	return class.Of(x)
}

// anyTree is a tree that is at most so deep.
func anyTree(pick func(int) int, deep int) api.Node {
	kind := pick(8)
	if deep == 1 || kind == 0 {
		if pick(8) == 0 {
			return api.Node{}
		}
		return api.Node{Kind: 1, Set: anySet(pick)}
	}
	if kind < 5 {
		n := api.Node{Kind: 2 + kind/4}
		for range 2 + pick(3) {
			n.Parts = append(n.Parts, anyTree(pick, deep-1))
		}
		return n
	}
	bounds := [][2]int64{{0, -1}, {1, -1}, {0, 1}, {2, 2}, {3, 3}, {1, 2}, {0, 3}, {2, 3}, {2, 4}, {3, 5}, {2, -1}, {4, -1}}
	b := bounds[pick(len(bounds))]
	return repeat(anyTree(pick, deep-1), b[0], b[1])
}

// P15.1, P15.2: of some thousand trees of many letters; and with greater bounds, up to the greatest ones, there is the same fork, and the same moves agree.
func TestAny(t *testing.T) {
	pick := picker()
	beginning, behind, without, deep := 0, 0, 0, 0
	for range 6000 {
		n := anyTree(pick, 2+pick(5))
		a, e := moves.Make(n)
		if e != api.OK {
			continue
		}
		many := 0
		for position := 1; position < len(a.Moves); position++ {
			many += len(rights(a, position))
		}
		hangs(t, n, api.MaxBound-5)
		if many > 300 {
			continue
		}
		f, is := holds(t, show.Text(n), a)
		switch {
		case is && f.At.At == 0:
			beginning++
		case is && f.At.Count[1] > 0:
			deep++
			behind++
		case is:
			behind++
		case len(a.Moves) > 3:
			without++
		}
	}
	// Trees that all are alike, or have too few positions for a fork within, would tell little.
	if beginning < 500 || behind < 500 || deep < 50 || without < 500 {
		t.Errorf("%d forks at the beginning, %d behind a byte, %d of these in scopes in scopes, %d trees of three positions or more without", beginning, behind, deep, without)
	}
}

// P15.1, P15.2: as many positions, scopes around them, and moves as may be: with a byte in common, and without any.
func TestMost(t *testing.T) {
	within := func(text string) string {
		for range api.MaxScopes {
			text = "((" + text + "){2147483646,2147483647})*"
		}
		return text
	}
	apart := ""
	for i := range api.MaxPlaces {
		apart += string([]byte{"ABCDEFGHIJKLMNOPQRSTUVWXYZabcdefghijklmnopqrstuvwxyz"[i], '?'})
	}
	none(t, apart, auto(t, within(apart)))
	finds(t, within(strings.Repeat("a?", api.MaxPlaces)), at(0), 1, 2, 'a')
	// The only byte in common is that of the last two positions.
	finds(t, within(apart[:2*37]+"z?y|z"), at(0), 38, 40, 'z')
}
