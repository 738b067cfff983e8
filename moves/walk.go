package moves

import (
	"ostinato/api"
	"ostinato/class"
	"ostinato/place"
)

// start is a move, and the position from which it is.
type start struct {
	from int
	Move
}

// joint is a move from each of some positions to each of others, all of one kind.
type joint struct {
	from, to places
	keep     int
	again    bool
}

// walker goes through a simple tree from left to right: at is the position that it has met last.
type walker struct {
	at     int
	met    map[start]struct{}
	joined map[joint]struct{}
}

// group is a node that is open: the scopes around it and around its parts, how many; its parts that are still to come; and the face of those that have come.
type group struct {
	node          *api.Node
	around, below int
	rest          []api.Node
	face          face
}

func newWalker() *walker {
	return &walker{met: map[start]struct{}{}, joined: map[joint]struct{}{}}
}

// whole goes through a tree, and is its face. What is open is kept in a list, not in calls: a tree may be deeper than calls can be.
func (w *walker) whole(tree *api.Node) face {
	open := []group{w.opened(tree, 0)}
	for {
		last := len(open) - 1
		inner := &open[last]
		if len(inner.rest) > 0 {
			part := &inner.rest[0]
			inner.rest = inner.rest[1:]
			open = append(open, w.opened(part, inner.below))
			continue
		}
		if last == 0 {
			return inner.face
		}
		w.add(&open[last-1], inner.face)
		open = open[:last]
	}
}

// opened is the group of a node none of whose parts has come.
func (w *walker) opened(n *api.Node, around int) group {
	g := group{node: n, around: around, below: around, rest: n.Parts}
	switch n.Kind {
	case nothing, cat:
		g.face.empty = true
	case oneByte:
		if !class.Empty(n.Set) {
			w.at++
			g.face = face{first: only(w.at), last: only(w.at)}
		}
	case repeated:
		g.face.empty = n.Lo == 0
		if counts(n) {
			g.below++
		}
	}
	return g
}

// add puts the face of the next part to a group's own, with the moves that come of it.
func (w *walker) add(g *group, part face) {
	if g.node.Kind == cat {
		w.join(joint{from: g.face.last, to: part.first, keep: g.around})
		g.face = g.face.then(part)
		return
	}
	if g.node.Kind == repeated && g.node.Hi != 1 {
		w.join(joint{from: part.last, to: part.first, keep: g.around, again: g.below > g.around})
	}
	g.face = g.face.or(part)
}

// join meets each move of a joint. One that was there is passed over: repeated nodes that stand in each other, however deep, have the same.
func (w *walker) join(j joint) {
	if _, was := w.joined[j]; was {
		return
	}
	w.joined[j] = struct{}{}
	for from := range j.from.each() {
		for to := range j.to.each() {
			w.met[start{from, Move{To: to, Keep: j.keep, Again: j.again}}] = struct{}{}
		}
	}
}

// counts tells whether a repeated node is a scope. Its bounds alone tell that: a node of nothing with the same ones is asked, so that what is below isn't gone through at each depth.
func counts(n *api.Node) bool {
	_, is := place.Counts(api.Node{Kind: repeated, Parts: []api.Node{{}}, Lo: n.Lo, Hi: n.Hi})
	return is
}
