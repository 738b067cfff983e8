package moves

import (
	"maps"
	"reflect"
	"runtime/debug"
	"slices"
	"testing"

	"ostinato/api"
	"ostinato/class"
	"ostinato/core"
	"ostinato/place"
	"ostinato/show"
	"ostinato/syntax"
)

// isScope tells whether a node is a scope.
func isScope(n api.Node) bool {
	_, counts := place.Counts(n)
	return counts
}

// ways are the ways to a simple tree's positions, part by part, from the top.
func ways(n api.Node, way ...int) [][]int {
	if n.Kind == 1 && !core.Void(n) {
		return [][]int{slices.Clone(way)}
	}
	var l [][]int
	for i, p := range n.Parts {
		l = append(l, ways(p, append(slices.Clone(way), i)...)...)
	}
	return l
}

func nullables(l []api.Node) bool {
	return !slices.ContainsFunc(l, func(n api.Node) bool { return !core.Nullable(n) })
}

// begins and ends tell whether a node does so with the position to which a way goes.
func begins(n api.Node, way []int) bool {
	if len(way) == 0 {
		return true
	}
	i := way[0]
	return (n.Kind != 2 || nullables(n.Parts[:i])) && begins(n.Parts[i], way[1:])
}

func ends(n api.Node, way []int) bool {
	if len(way) == 0 {
		return true
	}
	i := way[0]
	return (n.Kind != 2 || nullables(n.Parts[i+1:])) && ends(n.Parts[i], way[1:])
}

// between are the moves that a node, and those below it, have from one position to another, told of these two alone.
func between(n api.Node, from, to []int, at, keep int) map[Move]int {
	l := map[Move]int{}
	if len(from) == 0 || len(to) == 0 {
		return l
	}
	i, k, below := from[0], to[0], keep
	if isScope(n) {
		below++
	}
	if i == k {
		l = between(n.Parts[i], from[1:], to[1:], at, below)
	}
	leads := ends(n.Parts[i], from[1:]) && begins(n.Parts[k], to[1:])
	if n.Kind == 2 && i < k && nullables(n.Parts[i+1:k]) && leads || n.Kind == 4 && n.Hi != 1 && leads {
		l[Move{at, keep, isScope(n)}]++
	}
	return l
}

// holds fails, if a formed tree's automaton isn't what its simple tree says, position by position, or isn't refused just if that has no map.
func holds(t *testing.T, n api.Node) {
	t.Helper()
	m, e := place.Of(n)
	a, f := Make(n)
	if e != f || !reflect.DeepEqual(a.Map, m) {
		t.Fatalf("%q: %d %v, not %d %v", show.Text(n), f, a.Map, e, m)
	}
	if e != api.OK {
		return
	}
	l := ways(m.Tree)
	if len(a.Moves) != len(l)+1 || len(a.Last) != len(l)+1 || len(a.Moves[0]) > 0 || a.Last[0] || a.Empty != core.Nullable(m.Tree) {
		t.Fatalf("%q: %v", show.Text(n), a)
	}
	var first []int
	for i, way := range l {
		if begins(m.Tree, way) {
			first = append(first, i+1)
		}
		if a.Last[i+1] != ends(m.Tree, way) {
			t.Errorf("%q: ends with %d: %v", show.Text(n), i+1, a.Last)
		}
		want := map[Move]int{}
		for k, to := range l {
			maps.Copy(want, between(m.Tree, way, to, k+1, 0))
		}
		if got := slices.Clone(a.Moves[i+1]); !slices.Equal(got, rising(want)) {
			t.Errorf("%q: from %d %v, not %v", show.Text(n), i+1, got, want)
		}
	}
	if !slices.Equal(a.First, first) {
		t.Errorf("%q: begins with %v, not %v", show.Text(n), a.First, first)
	}
	keeps(t, n, a)
	matches(t, n, a)
}

// rising are moves in their order, found by trying all that there may be.
func rising(l map[Move]int) []Move {
	var sorted []Move
	for to := range api.MaxPlaces + 1 {
		for keep := range api.MaxScopes + 1 {
			for _, again := range []bool{false, true} {
				if m := (Move{to, keep, again}); l[m] > 0 {
					sorted = append(sorted, m)
				}
			}
		}
	}
	return sorted
}

// reached is a position, and of each scope around it its count, the outermost first.
type reached struct {
	at    int
	count [api.MaxScopes]int64
}

// entered is a position with all counts behind the first ones begun.
func entered(a Auto, at, kept int, count [api.MaxScopes]int64) reached {
	r := reached{at: at}
	copy(r.count[:kept], count[:kept])
	for i := kept; i < len(a.Map.Around[at]); i++ {
		r.count[i] = 1
	}
	return r
}

// moved is where a move comes to, and whether it may be made.
func moved(a Auto, r reached, m Move) (reached, bool) {
	around, kept := a.Map.Around[r.at], m.Keep
	if m.Again {
		next, ok := place.Next(a.Map.Scopes[around[kept]], r.count[kept])
		if !ok {
			return reached{}, false
		}
		r.count[kept] = next
		kept++
	}
	return entered(a, m.To, kept, r.count), done(a, r, kept)
}

// done tells whether all scopes around a position, but the first ones, may be left.
func done(a Auto, r reached, but int) bool {
	for i, s := range a.Map.Around[r.at] {
		if i >= but && !place.Done(a.Map.Scopes[s], r.count[i]) {
			return false
		}
	}
	return true
}

// matched are the words of at most three bytes, all of them of a, b and c, that an automaton leads through.
func matched(a Auto) map[string]int {
	l := map[string]int{}
	if a.Empty {
		l[""] = 1
	}
	var begun []reached
	for _, at := range a.First {
		begun = append(begun, entered(a, at, 0, [api.MaxScopes]int64{}))
	}
	behind(a, "", begun, l)
	return l
}

// behind puts to a list the words that go on behind a word, of what may be reached by one byte more.
func behind(a Auto, word string, next []reached, l map[string]int) {
	for _, b := range []byte("abc") {
		longer := word + string([]byte{b})
		var then []reached
		for _, r := range next {
			if !class.Has(a.Map.Sets[r.at], b) {
				continue
			}
			if a.Last[r.at] && done(a, r, 0) {
				l[longer] = 1
			}
			for _, m := range a.Moves[r.at] {
				if to, ok := moved(a, r, m); ok && !slices.Contains(then, to) {
					then = append(then, to)
				}
			}
		}
		if len(longer) < 3 {
			behind(a, longer, then, l)
		}
	}
}

// words are those of a tree that have at most three bytes, all of them of a, b and c.
func words(n api.Node) map[string]int {
	l := map[string]int{}
	switch n.Kind {
	case 0:
		l[""] = 1
	case 1:
		for _, b := range []byte("abc") {
			if class.Has(n.Set, b) {
				l[string([]byte{b})] = 1
			}
		}
	case 2:
		l[""] = 1
		for _, p := range n.Parts {
			l = joined(l, words(p))
		}
	case 3:
		for _, p := range n.Parts {
			maps.Copy(l, words(p))
		}
	case 4:
		return powers(words(n.Parts[0]), n.Lo, n.Hi)
	}
	return l
}

// joined are the words of two lists, one of one behind one of the other.
func joined(k, l map[string]int) map[string]int {
	both := map[string]int{}
	for v := range k {
		for w := range l {
			if len(v)+len(w) <= 3 {
				both[v+w] = 1
			}
		}
	}
	return both
}

// powers are the words that are lo to hi ones of a list. Four times and more are all one: with an empty word nothing comes any more, without one each is too long.
func powers(l map[string]int, lo, hi int64) map[string]int {
	if hi == -1 {
		hi = 4
	}
	all, now := map[string]int{}, map[string]int{"": 1}
	for k := range min(hi, 4) + 1 {
		if k >= min(lo, 4) {
			maps.Copy(all, now)
		}
		now = joined(now, l)
	}
	return all
}

// matches fails, if the words that an automaton leads through aren't the tree's.
func matches(t *testing.T, n api.Node, a Auto) {
	t.Helper()
	if got, want := matched(a), words(n); !maps.Equal(got, want) {
		t.Errorf("%q: %v, not %v", show.Text(n), got, want)
	}
}

// grown are trees made of one, two or three of some.
func grown(of []api.Node) []api.Node {
	var l []api.Node
	for _, a := range of {
		for _, b := range [][2]int64{{0, -1}, {0, 1}, {0, 0}, {1, 1}, {2, 2}, {2, -1}, {1, 3}} {
			l = append(l, repeat(a, b[0], b[1]))
		}
		for _, b := range of {
			l = append(l, cats(a, b), alts(a, b), cats(b, a, b))
		}
	}
	return l
}

// P6.1, P6.2: of each of some twenty thousand trees, and of some deeper ones; each automaton leads through its tree's words.
func TestGrown(t *testing.T) {
	least := []api.Node{{}, {Kind: 1}, one("a"), one("bc")}
	small := append(grown(least), least...)
	all := append(grown(small), small...)
	for i, n := range all {
		holds(t, n)
		if i%4 > 0 {
			continue
		}
		x, y := all[(7*i+3)%len(all)], all[(11*i+5)%len(all)]
		holds(t, cats(repeat(alts(n, x), 2, 3), repeat(y, 0, 1)))
		holds(t, repeat(cats(y, nested(x, 1), repeat(n, 0, 2)), 1, -1))
		holds(t, repeat(alts(cats(x, repeat(n, 3, -1)), repeat(y, 0, -1)), int64(i%3), int64(3+i%2)))
	}
}

// deep puts a tree into others, so many times.
func deep(n api.Node, times int, into func(n api.Node) api.Node) api.Node {
	for range times {
		n = into(n)
	}
	return n
}

// R1: trees that are deeper than calls may be.
func TestVeryDeep(t *testing.T) {
	defer debug.SetMaxStack(debug.SetMaxStack(1 << 20))
	const depth = 40000
	a, b := one("a"), one("b")
	var many []api.Node
	for i := range api.MaxPlaces {
		many = append(many, one(string([]byte{byte(i)})))
	}
	stars := func(n api.Node) api.Node { return repeat(n, 0, -1) }
	twice := func(n api.Node) api.Node { return repeat(n, 2, 2) }
	maybe := func(n api.Node) api.Node { return repeat(alts(n, api.Node{}), 0, 1) }
	for name, c := range map[string]struct {
		n     api.Node
		moves int // of position 1
		want  api.Errno
	}{
		"stars":           {n: deep(a, depth, stars), moves: 1},
		"stars of many":   {n: deep(alts(many...), depth, stars), moves: api.MaxPlaces},
		"once":            {n: deep(cats(a, b), depth, func(n api.Node) api.Node { return repeat(n, 1, 1) }), moves: 1},
		"maybe":           {n: deep(cats(a, b), depth, maybe), moves: 1},
		"stars of maybe":  {n: deep(a, depth, func(n api.Node) api.Node { return stars(maybe(n)) }), moves: 1},
		"scopes of stars": {n: nested(deep(a, depth, stars), 4), moves: 5},
		"stars of scopes": {n: deep(nested(a, 4), depth, stars), moves: 5},
		"in a row":        {n: cats(a, deep(b, depth, stars), deep(b, depth, maybe), deep(a, depth, stars)), moves: 3},
		"scopes":          {n: deep(a, depth, twice), want: api.ErrLimit},
		"rows":            {n: deep(a, depth, func(n api.Node) api.Node { return cats(b, repeat(n, 0, 1)) }), want: api.ErrLimit},
		"not formed":      {n: deep(api.Node{Kind: 9}, depth, twice), want: api.ErrArg},
	} {
		auto, e := Make(c.n)
		if e != c.want || (e == api.OK) != (len(auto.Moves) > 1) || e == api.OK && len(auto.Moves[1]) != c.moves {
			t.Error(name, e, auto.Moves)
		}
	}
}

// each does something with each list of a tree, those of its parts first.
func each(n api.Node, do func(list []api.Node)) {
	for _, p := range n.Parts {
		each(p, do)
	}
	do(n.Parts)
}

// spoil writes over each list of an automaton; of its own, the spare room too.
func spoil(a Auto) {
	each(a.Map.Tree, func(list []api.Node) { clear(list) })
	for _, l := range a.Map.Around {
		clear(l[:cap(l)])
	}
	for _, l := range a.Moves {
		clear(l[:cap(l)])
	}
	clear(a.Map.Sets)
	clear(a.Map.Scopes)
	clear(a.Map.Around)
	clear(a.First[:cap(a.First)])
	clear(a.Last[:cap(a.Last)])
	clear(a.Moves[:cap(a.Moves)])
}

// R5, and LANGUAGE's rule 7: what is handed in is left as it is, its spare room too; what is answered is new memory, and no two lists of it share any.
func TestLeftAlone(t *testing.T) {
	for _, text := range []string{"a", "ab", "a{2}*", "a|b*", "(a{2}b){3}", "(ab){2}(c|d)", "(((ab){2}c{3}d){4}(e|f){5}){6,}", "(a{2}b{3}c{4}|d){5}{1}(ef)*", "(a?b?c?d?e?){2}*"} {
		n, want := read(t, text), read(t, text)
		n.Parts = append(n.Parts, one("x"), one("y"))[:len(want.Parts)]
		spare := slices.Clone(n.Parts[:cap(n.Parts)])
		a, like := made(t, text), made(t, text)
		got, _ := Make(n)
		if !reflect.DeepEqual(got, like) || !syntax.Same(n, want) || !slices.EqualFunc(n.Parts[:cap(n.Parts)], spare, syntax.Same) {
			t.Errorf("%q: changed to %q", text, show.Text(n))
		}
		for i, l := range a.Moves {
			clear(l[:cap(l)])
			for k, other := range a.Moves[i+1:] {
				if !slices.Equal(other, like.Moves[i+1+k]) {
					t.Errorf("%q: two lists share their memory", text)
				}
			}
		}
		spoil(got)
		if again, _ := Make(n); !syntax.Same(n, want) || !reflect.DeepEqual(again, like) {
			t.Errorf("%q: memory is shared", text)
		}
		got, _ = Make(n)
		each(n, func(list []api.Node) { clear(list) })
		if !reflect.DeepEqual(got, like) {
			t.Errorf("%q: what is handed in is kept", text)
		}
	}
}
