package core

import (
	"slices"

	"ostinato/api"
	"ostinato/class"
	"ostinato/syntax"
)

// simple is a simple tree, and whether it is nullable: asked anew of each node, deep trees would be gone through again and again.
type simple struct {
	tree     api.Node
	nullable bool
}

// void tells whether it has no word: of the simple trees a class of no byte alone is void.
func (s simple) void() bool {
	return s.tree.Kind == oneByte && class.Empty(s.tree.Set)
}

// simpleOf makes a node simple, of its parts' simple trees. Their lists are its own to go on with: none is in two trees.
func simpleOf(n *api.Node, parts ...simple) simple {
	switch n.Kind {
	case oneByte:
		return simple{tree: api.Node{Kind: oneByte, Set: n.Set}}
	case cat:
		return row(parts...)
	case alt:
		return either(parts...)
	case repeated:
		return times(parts[0], n.Lo, n.Hi)
	}
	return simple{nullable: true}
}

// row is the simple tree of a CAT of these.
func row(parts ...simple) simple {
	nullable := true
	var l []api.Node
	for _, p := range parts {
		if p.void() {
			return p
		}
		nullable = nullable && p.nullable
		if p.tree.Kind != nothing {
			l = gathered(l, cat, p.tree)
		}
	}
	return simple{joined(cat, l...), nullable}
}

// either is the simple tree of an ALT of these.
func either(parts ...simple) simple {
	nullable := false
	var l []api.Node
	for _, p := range parts {
		nullable = nullable || p.nullable
		if !p.void() {
			l = gathered(l, alt, p.tree)
		}
	}
	if len(l) == 0 {
		return parts[0]
	}
	return simple{joined(alt, distinct(l...)...), nullable}
}

// times is the simple tree of one that is repeated.
func times(s simple, lo, hi int64) simple {
	switch {
	case s.void() && lo > 0, lo == 1 && hi == 1:
		return s
	case s.void(), s.tree.Kind == nothing, hi == 0:
		return simple{nullable: true}
	}
	if s.nullable {
		lo = 0
	}
	return simple{api.Node{Kind: repeated, Parts: []api.Node{s.tree}, Lo: lo, Hi: hi}, lo == 0}
}

// gathered is a list, and behind it a tree, or, if it is of that kind, its parts.
func gathered(l []api.Node, kind int, n api.Node) []api.Node {
	switch {
	case n.Kind != kind:
		return append(l, n)
	case l == nil:
		return n.Parts
	}
	return append(l, n.Parts...)
}

// joined is a node of that kind; of one part it alone, of none nothing.
func joined(kind int, parts ...api.Node) api.Node {
	switch len(parts) {
	case 0:
		return api.Node{}
	case 1:
		return parts[0]
	}
	return api.Node{Kind: kind, Parts: parts}
}

// distinct are those trees that aren't the same as one ahead. Of many, each is held against those of its own outline alone.
func distinct(trees ...api.Node) []api.Node {
	var l []api.Node
	met := map[uint64][]int{}
	for _, n := range trees {
		key := outline(n)
		same := func(i int) bool { return syntax.Same(l[i], n) }
		if !slices.ContainsFunc(met[key], same) {
			met[key] = append(met[key], len(l))
			l = append(l, n)
		}
	}
	return l
}

// outline is a number that trees which are the same have in common, and others hardly ever.
func outline(n api.Node) uint64 {
	var sum uint64
	for _, m := range highest(n) {
		for _, w := range [...]uint64{uint64(m.Kind), m.Set[0], m.Set[1], m.Set[2], m.Set[3], uint64(m.Lo), uint64(m.Hi), uint64(len(m.Parts))} {
			// An odd factor loses no bit; the shift brings the upper ones down.
			sum = (sum ^ w) * 0x9e3779b97f4a7c15
			sum ^= sum >> 32
		}
	}
	return sum
}

// highest are a tree's nodes next to its own, some at most: outlines are made at each depth, and shall not go through all that is below each time.
func highest(n api.Node) []api.Node {
	const most = 20
	l := []api.Node{n}
	for i := 0; i < len(l) && len(l) < most; i++ {
		parts := l[i].Parts
		l = append(l, parts[:min(len(parts), most-len(l))]...)
	}
	return l
}
