package syntax

import (
	"math"
	"runtime/debug"
	"slices"
	"testing"

	"ostinato/api"
)

// formedOnes are trees that are formed.
func formedOnes() []api.Node {
	a, none := one("a"), api.Node{}
	void := api.Node{Kind: 1}
	return []api.Node{
		none,
		a,
		void,
		{Kind: 1, Set: but(api.Class{}), Parts: []api.Node{}},
		{Parts: []api.Node{}},
		row(a, a),
		row(a, none, void),
		either(none, none),
		either(a, row(a, a), either(a, a), times(a, 0, 0)),
		row(row(a, a), row(none, none)),
		times(none, 0, 0),
		times(a, 0, -1),
		times(void, 0, api.MaxBound),
		times(a, api.MaxBound, api.MaxBound),
		times(a, api.MaxBound, -1),
		times(times(either(a, none), 2, 3), 1, 1),
	}
}

// unformed are trees of one node that isn't formed.
func unformed() []api.Node {
	a, some := one("a"), api.Class{1}
	two := []api.Node{a, a}
	l := []api.Node{
		{Set: some},
		{Parts: two[:1]},
		{Parts: two},
		{Lo: 1},
		{Hi: 1},
		{Hi: -1},
		{Kind: 1, Set: some, Parts: two[:1]},
		{Kind: 1, Parts: []api.Node{{}}},
		{Kind: 1, Set: some, Lo: 1},
		{Kind: 1, Set: some, Lo: 1, Hi: 1},
		{Kind: 1, Set: some, Hi: -1},
		{Kind: 4},
		{Kind: 4, Hi: -1},
		{Kind: 4, Hi: -1, Parts: two},
		{Kind: 4, Hi: -1, Parts: two[:1], Set: some},
	}
	for _, kind := range []int{2, 3} {
		l = append(l, api.Node{Kind: kind}, api.Node{Kind: kind, Parts: two[:1]}, api.Node{Kind: kind, Parts: two, Set: some},
			api.Node{Kind: kind, Parts: two, Lo: 1}, api.Node{Kind: kind, Parts: two, Hi: 1}, api.Node{Kind: kind, Parts: two, Hi: -1})
	}
	for _, b := range [][2]int64{{-1, -1}, {-1, 0}, {-1, 5}, {1, 0}, {0, -2}, {-2, -2}, {3, 2}, {0, api.MaxBound + 1}, {api.MaxBound + 1, api.MaxBound + 1},
		{api.MaxBound + 1, -1}, {api.MaxBound, api.MaxBound - 1}, {math.MinInt64, -1}, {math.MaxInt64, -1}, {0, math.MinInt64}, {0, math.MaxInt64}, {math.MinInt64, math.MaxInt64}, {1 << 32, 1 << 32}} {
		l = append(l, times(a, b[0], b[1]))
	}
	for _, kind := range []int{-1, 5, 6, math.MinInt, math.MaxInt, 256, 1 << 32, 1<<32 + 1} {
		l = append(l, api.Node{Kind: kind}, api.Node{Kind: kind, Set: some}, api.Node{Kind: kind, Parts: two}, api.Node{Kind: kind, Parts: two[:1], Hi: -1})
	}
	return l
}

// around puts a tree, at each place, into others that are formed.
func around(n api.Node) []api.Node {
	a := one("a")
	return []api.Node{
		row(n, a), row(a, n), row(a, n, a), either(n, a), either(a, a, n), times(n, 0, -1), times(n, 2, 3),
		row(a, either(a, times(row(a, n), 1, 1))), row(either(times(n, 0, 1), a), a),
	}
}

// P2.2: Formed, of trees that are, of ones that aren't, and of ones that are but for one node somewhere.
func TestFormed(t *testing.T) {
	for _, n := range formedOnes() {
		for _, m := range append(around(n), n) {
			if !Formed(m) {
				t.Error(m, "is formed")
			}
		}
	}
	for _, n := range unformed() {
		for _, m := range append(around(n), n) {
			if Formed(m) {
				t.Error(m, "isn't formed")
			}
		}
	}
}

// P2.2: Depth and Places, of formed trees and of others.
func TestDepthPlaces(t *testing.T) {
	a, none := one("a"), api.Node{}
	odd := api.Node{Kind: 1, Parts: []api.Node{a, {Kind: -3, Parts: []api.Node{a, none, row(a, a, a)}}}}
	for _, c := range []struct {
		n             api.Node
		depth, places int
	}{
		{none, 1, 0},
		{a, 1, 1},
		{api.Node{Kind: 1}, 1, 1},
		{api.Node{Kind: 1, Parts: []api.Node{}}, 1, 1},
		{row(a, a), 2, 2},
		{either(none, none), 2, 0},
		{times(a, 1000, api.MaxBound), 2, 1},
		{row(a, times(either(a, none), 0, 1), a), 4, 3},
		{row(times(times(a, 0, 1), 0, 1), a), 4, 2},
		{row(a, times(times(a, 0, 1), 0, 1)), 4, 2},
		{row(row(row(a, a), a), a, row(a, row(a, row(a, a)))), 5, 8},
		{api.Node{Kind: 2}, 1, 0},
		{api.Node{Kind: 4}, 1, 0},
		{api.Node{Kind: 7, Lo: -9}, 1, 0},
		{api.Node{Parts: []api.Node{a}}, 2, 1},
		{odd, 4, 6},
		{row(odd, odd, a), 5, 13},
	} {
		if Depth(c.n) != c.depth || Places(c.n) != c.places {
			t.Error(c.n, Depth(c.n), Places(c.n))
		}
	}
}

// P2.2: Same, of each two of some trees; a tree is alike to what is made anew like it, whether its empty lists are nil or not.
func TestSame(t *testing.T) {
	a := one("a")
	anew := func() []api.Node {
		l := []api.Node{
			{}, {Set: api.Class{1}}, {Lo: 1}, {Hi: 1}, {Hi: -1}, {Kind: -1}, {Kind: 5},
			a, one("b"), one("ab"), {Kind: 1}, {Kind: 1, Set: api.Class{0, 1}}, {Kind: 1, Set: api.Class{0, 0, 1}}, {Kind: 1, Set: api.Class{0, 0, 0, 1}},
			{Kind: 2}, {Kind: 3}, {Kind: 4}, {Parts: []api.Node{a}}, {Kind: 4, Parts: []api.Node{a}},
			row(a, a), row(a, one("b")), row(one("b"), a), row(a, a, a), either(a, a), row(row(a, a), a), row(a, row(a, a)),
			times(a, 0, -1), times(a, 1, -1), times(a, 0, 1), times(a, 1, 1), times(a, 1<<32, 1<<33), times(a, 0, 1<<33), times(one("b"), 0, -1), times(times(a, 0, -1), 0, -1),
			row(a, times(either(a, api.Node{}), 2, 3)), row(a, times(either(a, api.Node{}), 2, 4)), row(a, times(either(api.Node{}, a), 2, 3)), row(a, times(either(a, api.Node{Lo: 1}), 2, 3)),
		}
		return append(l, around(api.Node{Kind: 9})...)
	}
	l, m := anew(), anew()
	for i := range l {
		for j := range m {
			if Same(l[i], m[j]) != (i == j) {
				t.Error(l[i], m[j])
			}
		}
	}
	empty := []api.Node{}
	if !Same(api.Node{}, api.Node{Parts: empty}) || !Same(row(a, api.Node{Kind: 1, Parts: empty}), row(a, api.Node{Kind: 1})) || !Same(api.Node{Kind: 2, Parts: empty}, api.Node{Kind: 2}) {
		t.Error("no elements")
	}
}

// R1: trees that are deeper than calls may be are gone through, too.
func TestVeryDeep(t *testing.T) {
	defer debug.SetMaxStack(debug.SetMaxStack(1 << 20))
	const depth = 200000
	deep := func(lowest api.Node) api.Node {
		n := lowest
		for i := 1; i < depth; i++ {
			if i%2 == 0 {
				n = row(n, one("a"))
			} else {
				n = times(n, 0, -1)
			}
		}
		return n
	}
	n, like, unlike := deep(one("a")), deep(one("a")), deep(api.Node{Kind: 5})
	if Depth(n) != depth || Places(n) != depth/2 || !Formed(n) || Formed(unlike) || !Same(n, like) || Same(n, unlike) || Same(unlike, n) {
		t.Error(Depth(n), Places(n))
	}
}

// R5: what is handed in is left as it is.
func TestLeftAlone(t *testing.T) {
	room := []api.Node{one("a"), times(one("b"), 1, 2), one("c"), one("d")}
	given := slices.Clone(room)
	n := row(room[:2]...)
	if !Formed(n) || Depth(n) != 3 || Places(n) != 2 || !Same(n, n) {
		t.Error(n)
	}
	if !slices.EqualFunc(room, given, alike) {
		t.Error("changed", room)
	}
}
