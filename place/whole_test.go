package place

import (
	"reflect"
	"runtime/debug"
	"slices"
	"testing"

	"ostinato/api"
	"ostinato/core"
	"ostinato/show"
	"ostinato/syntax"
)

// told is what stands in a map, told in another way: of each scope and each position the way to it, part by part, from the top.
type told struct {
	scopes, positions [][]int
	bounds            []Scope
	sets              []api.Class
}

// tell goes through a simple tree by calls.
func (w *told) tell(n api.Node, way ...int) {
	way = slices.Clone(way)
	switch {
	case n.Kind == 1 && n.Set != (api.Class{}):
		w.positions, w.sets = append(w.positions, way), append(w.sets, n.Set)
	case n.Kind == 4 && (n.Hi >= 2 || n.Hi == -1 && n.Lo >= 2):
		w.scopes, w.bounds = append(w.scopes, way), append(w.bounds, Scope{max(n.Lo, 1), n.Hi})
	}
	for i, p := range n.Parts {
		w.tell(p, append(way, i)...)
	}
}

// around are the numbers of the scopes that a position stands in: those whose way its own way begins with.
func (w *told) around(position []int) []int {
	var l []int
	for i, s := range w.scopes {
		if len(s) < len(position) && slices.Equal(s, position[:len(s)]) {
			l = append(l, i)
		}
	}
	return l
}

// most is how many scopes there are around the position that has most of them.
func (w *told) most() int {
	most := 0
	for _, p := range w.positions {
		most = max(most, len(w.around(p)))
	}
	return most
}

// holds fails, if a formed tree's map isn't what its simple tree says, or isn't refused just if that has too much.
func holds(t *testing.T, n api.Node) {
	t.Helper()
	simple, _ := core.Simple(n)
	var w told
	w.tell(simple)
	m, e := Of(n)
	if len(w.positions) > api.MaxPlaces || w.most() > api.MaxScopes {
		if e != api.ErrLimit || !reflect.DeepEqual(m, Map{}) {
			t.Fatalf("%q: %d %v", show.Text(n), e, m)
		}
		return
	}
	if e != api.OK || !syntax.Same(m.Tree, simple) || !slices.Equal(m.Scopes, w.bounds) || !slices.Equal(m.Sets[1:], w.sets) || len(m.Around) != len(m.Sets) {
		t.Fatalf("%q: %d %v", show.Text(n), e, m)
	}
	for i, p := range w.positions {
		if !slices.Equal(m.Around[i+1], w.around(p)) {
			t.Errorf("%q: around %d: %v, not %v", show.Text(n), i+1, m.Around[i+1], w.around(p))
		}
	}
	inEachOther(t, n, m)
}

// inEachOther fails, if scopes around a position don't rise, or if those that are around two come not first around both.
func inEachOther(t *testing.T, n api.Node, m Map) {
	t.Helper()
	for i, a := range m.Around {
		for k := 1; k < len(a); k++ {
			if a[k-1] >= a[k] {
				t.Errorf("%q: %d doesn't rise: %v", show.Text(n), i, a)
			}
		}
		for _, b := range m.Around[:i] {
			common := 0
			for common < min(len(a), len(b)) && a[common] == b[common] {
				common++
			}
			if slices.ContainsFunc(a[common:], func(s int) bool { return slices.Contains(b, s) }) {
				t.Errorf("%q: %v %v", show.Text(n), a, b)
			}
		}
	}
}

// grown are trees made of one, two or three of some.
func grown(of []api.Node) []api.Node {
	var l []api.Node
	for _, a := range of {
		for _, b := range [][2]int64{{0, -1}, {0, 1}, {0, 0}, {1, 1}, {2, 2}, {2, -1}, {0, 3}} {
			l = append(l, repeat(a, b[0], b[1]))
		}
		for _, b := range of {
			l = append(l, cats(a, b), alts(a, b), cats(b, a, b))
		}
	}
	return l
}

// P5.1, P5.3: of each of some twenty thousand trees, and of three times as many deeper ones, of which some have too many scopes.
func TestGrown(t *testing.T) {
	least := []api.Node{{}, {Kind: 1}, one("a"), one("bc")}
	small := append(grown(least), least...)
	all := append(grown(small), small...)
	for i, n := range all {
		holds(t, n)
		x, y := all[(7*i+3)%len(all)], all[(11*i+5)%len(all)]
		holds(t, cats(repeat(alts(n, x), 2, 3), y))
		holds(t, repeat(alts(cats(x, repeat(n, 5, -1)), repeat(y, 0, -1)), int64(i%4), int64(4+i%2)))
		holds(t, repeat(cats(y, nested(x, 2), n), 2, 3))
	}
}

// deep puts a tree into others, so many times.
func deep(n api.Node, times int, into func(n api.Node) api.Node) api.Node {
	for range times {
		n = into(n)
	}
	return n
}

// R1: trees that are deeper than calls may be.
func TestVeryDeep(t *testing.T) {
	defer debug.SetMaxStack(debug.SetMaxStack(1 << 20))
	const depth = 40000
	a, b := one("a"), one("b")
	stars := func(n api.Node) api.Node { return repeat(n, 0, -1) }
	once := func(n api.Node) api.Node { return repeat(n, 1, 1) }
	twice := func(n api.Node) api.Node { return repeat(n, 2, 2) }
	alt := func(n api.Node) api.Node { return repeat(alts(n, api.Node{}), 0, 1) }
	row := func(n api.Node) api.Node { return cats(b, repeat(n, 0, 1)) }
	for name, c := range map[string]struct {
		n                    api.Node
		sets, scopes, around int
		want                 api.Errno
	}{
		"stars":             {n: deep(a, depth, stars), sets: 2},
		"once":              {n: deep(a, depth, once), sets: 2},
		"alts":              {n: deep(a, depth, alt), sets: 2},
		"scopes of stars":   {n: nested(deep(a, depth, stars), 4), sets: 2, scopes: 4, around: 4},
		"stars of scopes":   {n: deep(nested(cats(a, b), 3), depth, stars), sets: 3, scopes: 3, around: 3},
		"scopes of nothing": {n: cats(a, deep(api.Node{}, depth, twice)), sets: 2},
		"scopes":            {n: deep(a, depth, twice), want: api.ErrLimit},
		"rows":              {n: deep(a, depth, row), want: api.ErrLimit},
		"not formed":        {n: deep(api.Node{Kind: 9}, depth, twice), want: api.ErrArg},
	} {
		m, e := Of(c.n)
		if e != c.want || len(m.Sets) != c.sets || len(m.Scopes) != c.scopes {
			t.Error(name, e, len(m.Sets), m.Scopes)
		}
		if e == api.OK && len(m.Around[c.sets-1]) != c.around {
			t.Error(name, m.Around)
		}
	}
	if s, counts := Counts(deep(a, depth, twice)); s != (Scope{2, 2}) || !counts {
		t.Error(s, counts)
	}
	if s, counts := Counts(deep(api.Node{Kind: 9}, depth, twice)); s != (Scope{}) || counts {
		t.Error(s, counts)
	}
}

// each does something with each list of a tree, those of its parts first.
func each(n api.Node, do func(list []api.Node)) {
	for _, p := range n.Parts {
		each(p, do)
	}
	do(n.Parts)
}

// spoil writes over each list of a map; of the numbers' lists, their spare room too.
func spoil(m Map) {
	each(m.Tree, func(list []api.Node) {
		for i := range list {
			list[i] = one("spoilt")
		}
	})
	for _, l := range m.Around {
		l = l[:cap(l)]
		for i := range l {
			l[i] = 99
		}
	}
	clear(m.Around)
	clear(m.Sets)
	clear(m.Scopes)
}

// R5, and LANGUAGE's rule 7: what is handed in is left as it is; what is answered is new memory, and no two lists of it share any.
func TestLeftAlone(t *testing.T) {
	for _, text := range []string{"a", "ab", "a{2}", "a|b*", "(a{2}b){3}", "(ab){2}(c|d)", "(((ab){2}c{3}d){4}(e|f){5}){6,}", "(a{2}b{3}c{4}|d){5}{1}(ef)*"} {
		n, want := read(t, text), read(t, text)
		n.Parts = append(n.Parts, one("x"), one("y"))[:len(want.Parts)]
		spare := slices.Clone(n.Parts[:cap(n.Parts)])
		m, like := of(t, text), of(t, text)
		got, _ := Of(n)
		Counts(n)
		if !reflect.DeepEqual(got, like) || !syntax.Same(n, want) || !slices.EqualFunc(n.Parts[:cap(n.Parts)], spare, syntax.Same) {
			t.Errorf("%q: changed to %q", text, show.Text(n))
		}
		for i, l := range m.Around {
			_ = append(l, 77)
			for k := range l {
				l[k] = 88
			}
			for k, other := range m.Around[i+1:] {
				if !slices.Equal(other, like.Around[i+1+k]) {
					t.Errorf("%q: two lists share their memory", text)
				}
			}
		}
		spoil(got)
		if again, _ := Of(n); !syntax.Same(n, want) || !reflect.DeepEqual(again, like) {
			t.Errorf("%q: memory is shared", text)
		}
		got, _ = Of(n)
		each(n, func(list []api.Node) { clear(list) })
		if !reflect.DeepEqual(got, like) {
			t.Errorf("%q: what is handed in is kept", text)
		}
	}
}
