package core

import (
	"maps"
	"runtime/debug"
	"slices"
	"testing"

	"ostinato/api"
	"ostinato/class"
	"ostinato/show"
	"ostinato/syntax"
)

// words are those of a tree that have at most three bytes, all of them of a, b and c.
func words(n api.Node) map[string]int {
	l := map[string]int{}
	switch n.Kind {
	case 0:
		l[""] = 1
	case 1:
		for _, b := range []byte("abc") {
			if class.Has(n.Set, b) {
				l[string([]byte{b})] = 1
			}
		}
	case 2:
		l[""] = 1
		for _, p := range n.Parts {
			l = behind(l, words(p))
		}
	case 3:
		for _, p := range n.Parts {
			maps.Copy(l, words(p))
		}
	case 4:
		return powers(words(n.Parts[0]), n.Lo, n.Hi)
	}
	return l
}

// behind are the words of two lists, one of one behind one of the other.
func behind(k, l map[string]int) map[string]int {
	both := map[string]int{}
	for v := range k {
		for w := range l {
			if len(v)+len(w) <= 3 {
				both[v+w] = 1
			}
		}
	}
	return both
}

// powers are the words that are lo to hi ones of a list. Four times and more are all one: with an empty word nothing comes any more, without one each is too long.
func powers(l map[string]int, lo, hi int64) map[string]int {
	if hi == -1 {
		hi = 4
	}
	all, now := map[string]int{}, map[string]int{"": 1}
	for k := range min(hi, 4) + 1 {
		if k >= min(lo, 4) {
			maps.Copy(all, now)
		}
		now = behind(now, l)
	}
	return all
}

// isSimple tells whether nothing in a tree is left to be made simple.
func isSimple(n api.Node, top bool) bool {
	if Void(n) && !(top && n.Kind == 1) {
		return false
	}
	for i, p := range n.Parts {
		if p.Kind == n.Kind && n.Kind != 4 || p.Kind == 0 && n.Kind != 3 || !isSimple(p, false) {
			return false
		}
		if n.Kind == 3 && slices.ContainsFunc(n.Parts[:i], func(q api.Node) bool { return syntax.Same(p, q) }) {
			return false
		}
	}
	return n.Kind != 4 || n.Hi != 0 && (n.Lo != 1 || n.Hi != 1) && (n.Lo == 0 || !Nullable(n.Parts[0]))
}

// holds fails, if a formed tree's simple tree isn't formed, isn't simple, isn't its own, is void or nullable where the tree isn't, or has other words.
func holds(t *testing.T, n api.Node) {
	t.Helper()
	s, e := Simple(n)
	if e != api.OK || !syntax.Formed(s) || !isSimple(s, true) {
		t.Fatalf("%q: %d %q isn't simple", show.Text(n), e, show.Text(s))
	}
	if again, e := Simple(s); e != api.OK || !syntax.Same(again, s) {
		t.Errorf("%q: %q, and of it %q", show.Text(n), show.Text(s), show.Text(again))
	}
	if Void(n) != Void(s) || Nullable(n) != Nullable(s) {
		t.Errorf("%q, %q: void %v %v, nullable %v %v", show.Text(n), show.Text(s), Void(n), Void(s), Nullable(n), Nullable(s))
	}
	had, has := words(n), words(s)
	if !maps.Equal(had, has) {
		t.Errorf("%q: %v, %q: %v", show.Text(n), had, show.Text(s), has)
	}
	if _, has := had[""]; has != Nullable(n) {
		t.Errorf("%q: nullable %v, of %v", show.Text(n), Nullable(n), had)
	}
	if Void(n) && len(had) > 0 {
		t.Errorf("%q is void: %v", show.Text(n), had)
	}
}

// grown are trees made of one, two or three of some.
func grown(of []api.Node) []api.Node {
	var l []api.Node
	for _, a := range of {
		for _, b := range [][2]int64{{0, -1}, {1, -1}, {0, 1}, {0, 0}, {1, 1}, {2, 2}, {2, -1}, {1, 3}, {7, api.MaxBound}} {
			l = append(l, repeat(a, b[0], b[1]))
		}
		for _, b := range of {
			l = append(l, cats(a, b), alts(a, b), cats(b, a, b), alts(a, b, a))
		}
	}
	return l
}

// P4.2: of each of some fifty thousand trees.
func TestGrown(t *testing.T) {
	least := []api.Node{{}, {Kind: 1}, one("a"), one("bc")}
	small := append(grown(least), least...)
	for _, n := range append(grown(small), small...) {
		holds(t, n)
	}
	// Deeper ones, of some of them.
	all := grown(small)
	for i := 0; i < len(all); i += 17 {
		x, y, z := all[i], all[(7*i+3)%len(all)], small[i%len(small)]
		holds(t, cats(alts(x, z), repeat(y, 1, 1)))
		holds(t, alts(cats(z, x), alts(y, z), repeat(x, int64(i%3), -1)))
		holds(t, repeat(alts(cats(x, y), cats(z, api.Node{})), int64(i%4), int64(4+i%2)))
	}
}

// deep puts a tree into others, so many times.
func deep(n api.Node, times int, into func(n api.Node, i int) api.Node) api.Node {
	for i := range times {
		n = into(n, i)
	}
	return n
}

// R1: trees that are deeper than calls may be, and long rows of CATs in CATs, ALTs in ALTs.
func TestVeryDeep(t *testing.T) {
	defer debug.SetMaxStack(debug.SetMaxStack(1 << 20))
	const depth = 40000
	a, b, void := one("a"), one("b"), api.Node{Kind: 1}
	rows := func(n api.Node, i int) api.Node { return cats(n, a) }
	for name, c := range map[string]struct {
		n, want        api.Node
		void, nullable bool
	}{
		"stars":           {deep(a, depth, func(n api.Node, i int) api.Node { return repeat(n, 0, -1) }), deep(a, depth, func(n api.Node, i int) api.Node { return repeat(n, 0, -1) }), false, true},
		"once":            {deep(a, depth, func(n api.Node, i int) api.Node { return repeat(n, 1, 1) }), a, false, false},
		"void":            {deep(void, depth, func(n api.Node, i int) api.Node { return cats(repeat(n, 2, 3), a) }), void, true, false},
		"nothing":         {deep(api.Node{}, depth, func(n api.Node, i int) api.Node { return repeat(cats(n, api.Node{}), 1, 2) }), api.Node{}, false, true},
		"to the left":     {deep(a, depth, rows), cats(slices.Repeat([]api.Node{a}, depth+1)...), false, false},
		"to the right":    {deep(a, depth, func(n api.Node, i int) api.Node { return cats(b, n) }), cats(append(slices.Repeat([]api.Node{b}, depth), a)...), false, false},
		"alts, left":      {deep(a, depth, func(n api.Node, i int) api.Node { return alts(n, b) }), alts(a, b), false, false},
		"alts, right":     {deep(a, depth, func(n api.Node, i int) api.Node { return alts(b, n) }), alts(b, a), false, false},
		"once in a row":   {deep(a, depth, func(n api.Node, i int) api.Node { return cats(repeat(n, 1, 1), a) }), cats(slices.Repeat([]api.Node{a}, depth+1)...), false, false},
		"alone in an alt": {deep(a, depth, func(n api.Node, i int) api.Node { return cats(alts(void, n), a) }), cats(slices.Repeat([]api.Node{a}, depth+1)...), false, false},
	} {
		s, e := Simple(c.n)
		if e != api.OK || !syntax.Same(s, c.want) || Void(c.n) != c.void || Nullable(c.n) != c.nullable {
			t.Error(name, e, Void(c.n), Nullable(c.n))
		}
	}
	n := deep(a, depth, func(n api.Node, i int) api.Node { return cats(alts(n, b), a) })
	wrong := deep(api.Node{Kind: 5}, depth, rows)
	if s, e := Simple(n); e != api.OK || !syntax.Same(s, n) {
		t.Error("rows of alts", e)
	}
	if _, e := Simple(wrong); e != api.ErrArg || Void(wrong) || Nullable(wrong) {
		t.Error("not formed", e)
	}
}

// each does something with each list of a tree, those of its parts first.
func each(n api.Node, do func(list []api.Node)) {
	for _, p := range n.Parts {
		each(p, do)
	}
	do(n.Parts)
}

// R5, and LANGUAGE's rule 7: what is handed in is left as it is, its spare room too; what is answered is new memory, and no two lists of it share any.
func TestLeftAlone(t *testing.T) {
	fill := func(list []api.Node) {
		for i := range list {
			list[i] = one("spoilt")
		}
	}
	for _, text := range []string{"a", "ab", "a|b", "a*", "a{1}", "(ab)(cd)e", "(a|b)|(b|c)", "(ab|~)c(de)", "(ab){1}", "(a|b)()", "((ab|c){1}|(ab)?d){2}(e(fg|fg))", "(ab)*|(ab)*|((cd)*|e(fg))", "(abc|~)(def|def)", "(a|b|c)()|(d|e|f)()|a*"} {
		n, want := read(t, text), read(t, text)
		n.Parts = append(n.Parts, one("x"), one("y"))[:len(want.Parts)]
		spare := slices.Clone(n.Parts[:cap(n.Parts)])
		s, _ := Simple(n)
		like, _ := Simple(n)
		Void(n)
		Nullable(n)
		if !syntax.Same(n, want) || !slices.EqualFunc(n.Parts[:cap(n.Parts)], spare, syntax.Same) {
			t.Errorf("%q: changed to %q", text, show.Text(n))
		}
		each(s, func(list []api.Node) { fill(list[len(list):cap(list)]) })
		if !syntax.Same(s, like) {
			t.Errorf("%q: two lists share their room", text)
		}
		each(s, fill)
		if again, _ := Simple(n); !syntax.Same(n, want) || !syntax.Same(like, again) {
			t.Errorf("%q: memory is shared", text)
		}
		each(n, fill)
		if again, _ := Simple(want); !syntax.Same(like, again) {
			t.Errorf("%q: what is handed in is kept", text)
		}
	}
}
