package place

import (
	"slices"

	"ostinato/api"
	"ostinato/class"
)

// row is nodes that are still to come, and the scopes around all of them, the outermost first.
type row struct {
	nodes  []api.Node
	around []int
}

// mapped is the map of a simple tree. What is open is kept in a list, not in calls: a tree may be deeper than calls can be.
func mapped(tree api.Node) (Map, api.Errno) {
	m := Map{Tree: tree, Sets: make([]api.Class, 1), Around: make([][]int, 1)}
	open := []row{{nodes: []api.Node{tree}}}
	for len(open) > 0 {
		last := &open[len(open)-1]
		if len(last.nodes) == 0 {
			open = open[:len(open)-1]
			continue
		}
		n := &last.nodes[0]
		last.nodes = last.nodes[1:]
		below := m.within(n, last.around)
		m.put(n, last.around)
		if m.tooMuch(below) {
			return Map{}, api.ErrLimit
		}
		open = append(open, row{n.Parts, below})
	}
	return m, api.OK
}

// within are the scopes around what is below a node, of those around it. A list with one more is a copy: what stands beside the node has its own.
func (m *Map) within(n *api.Node, around []int) []int {
	if n.Kind != repeated {
		return around
	}
	s := scopeOf(n)
	if !s.counts() {
		return around
	}
	m.Scopes = append(m.Scopes, s)
	return append(slices.Clone(around), len(m.Scopes)-1)
}

// put gives a node the next position, if it is one.
func (m *Map) put(n *api.Node, around []int) {
	if n.Kind == oneByte && !class.Empty(n.Set) {
		m.Sets = append(m.Sets, n.Set)
		m.Around = append(m.Around, slices.Clone(around))
	}
}

// tooMuch tells whether there are more positions, or scopes around one, than may be. A scope is enough to tell: of a simple tree each has a position in it.
func (m *Map) tooMuch(around []int) bool {
	return len(m.Sets)-1 > api.MaxPlaces || len(around) > api.MaxScopes
}
