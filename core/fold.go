package core

import (
	"ostinato/api"
)

// group is a node, what is made of its parts so far, and the lists of nodes that are still to come, the next one last.
type group[T any] struct {
	node  *api.Node
	parts []T
	rest  [][]api.Node
}

// fold makes something of a formed tree: of each node, of what is made of its parts. What is open is kept in a list, not in calls: a tree may be deeper than calls can be.
func fold[T any](n *api.Node, of func(n *api.Node, parts ...T) T) T {
	open := []group[T]{opened[T](n)}
	for {
		inner := len(open) - 1
		if part := open[inner].next(); part != nil {
			open = append(open, opened[T](part))
			continue
		}
		made := of(open[inner].node, open[inner].parts...)
		if inner == 0 {
			return made
		}
		open = open[:inner]
		outer := &open[inner-1]
		outer.parts = append(outer.parts, made)
	}
}

// opened is the group of a node none of whose parts is gone through.
func opened[T any](n *api.Node) group[T] {
	if len(n.Parts) == 0 {
		return group[T]{node: n}
	}
	return group[T]{node: n, rest: [][]api.Node{n.Parts}}
}

// next is the part that comes; nil, if there is none.
func (g *group[T]) next() *api.Node {
	for len(g.rest) > 0 {
		last := len(g.rest) - 1
		row := g.rest[last]
		if len(row) == 0 {
			g.rest = g.rest[:last]
			continue
		}
		g.rest[last] = row[1:]
		part := &row[0]
		if !melts(part, g.node) {
			return part
		}
		g.rest = append(g.rest, part.Parts)
	}
	return nil
}

// melts tells whether it is all one, for what is made of a node here, if a part of it has its own parts in its place. Were the lists of such parts made first, long rows of them in each other would be copied again and again.
func melts(part, in *api.Node) bool {
	switch part.Kind {
	case cat, alt:
		return part.Kind == in.Kind
	case repeated:
		return part.Lo == 1 && part.Hi == 1
	}
	return false
}
