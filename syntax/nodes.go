package syntax

import (
	"iter"

	"ostinato/api"
)

// nodes are a tree's nodes, a node ahead of those below it, each behind its depth in the tree (1 is the tree's own). What is still to come is kept in a list, not in calls: a tree may be deeper than calls can be.
func nodes(n api.Node) iter.Seq2[int, api.Node] {
	return func(yield func(int, api.Node) bool) {
		rest := [][]api.Node{{n}}
		for len(rest) > 0 {
			depth := len(rest)
			row := rest[depth-1]
			if len(row) == 0 {
				rest = rest[:depth-1]
				continue
			}
			if !yield(depth, row[0]) {
				return
			}
			rest[depth-1] = row[1:]
			rest = append(rest, row[0].Parts)
		}
	}
}

// formedAlone tells whether a node has what its kind has, whatever its parts have.
func formedAlone(n api.Node) bool {
	parts := len(n.Parts)
	noSet := n.Set == api.Class{}
	noTimes := n.Lo == 0 && n.Hi == 0
	switch n.Kind {
	case nothing:
		return noSet && noTimes && parts == 0
	case oneByte:
		return noTimes && parts == 0
	case cat, alt:
		return noSet && noTimes && parts >= 2
	case repeated:
		return noSet && parts == 1 && bounded(n.Lo, n.Hi)
	}
	return false
}

// bounded tells whether something may be repeated lo to hi times.
func bounded(lo, hi int64) bool {
	if lo < 0 || lo > api.MaxBound {
		return false
	}
	return hi == -1 || lo <= hi && hi <= api.MaxBound
}

// sameAlone tells whether two nodes are alike, whatever their parts have.
func sameAlone(a, b *api.Node) bool {
	return a.Kind == b.Kind && a.Set == b.Set && a.Lo == b.Lo && a.Hi == b.Hi && len(a.Parts) == len(b.Parts)
}
