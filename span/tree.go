package span

import (
	"ostinato/api"
)

// The kinds of nodes: see api.Node.
const (
	nothing  = 0
	oneByte  = 1
	alt      = 3
	repeated = 4
)

// node is a node of a tree, and which of its parts are gone through: from one up to, but not with, another.
type node struct {
	of       *api.Node
	outer    int // what it is a part of
	first    int // its first part; its others stand behind that
	size     int // how many nodes it has, with itself
	from, to int
	made     relation // of what is gone through; nil, if nothing is
}

// tree is a list of nodes, each ahead of its parts. Trees are gone through by lists, not in calls: they may be deeper than calls can be.
type tree []node

// laid is a formed tree as a list of nodes, none of whose parts is gone through.
func laid(n *api.Node) tree {
	t := tree{{of: n, size: 1}}
	for at := 0; at < len(t); at++ {
		parts, first := t[at].of.Parts, len(t)
		t[at].first, t[at].from, t[at].to = first, first, first
		for i := range parts {
			t = append(t, node{of: &parts[i], outer: at, size: 1})
		}
	}
	for at := len(t) - 1; at > 0; at-- {
		t.weigh(at)
	}
	return t
}

// weigh adds a part's size, which is known, to what it is a part of, and lets that begin with its greatest part. While a node waits for that one, it has no relation yet; each later one is at most half as great as the node: so few nodes have one at a time, however deep the tree is.
func (t tree) weigh(part int) {
	n := &t[t[part].outer]
	n.size += t[part].size
	if t[part].size > t[n.from].size {
		n.from, n.to = part, part
	}
}

// reached is what the tree reaches in a word.
func (t tree) reached(word []byte) relation {
	at := 0
	for {
		if part, more := t[at].next(); more {
			at = part
			continue
		}
		made := t[at].whole(word)
		if at == 0 {
			return made
		}
		t[at].made = nil
		outer := t[at].outer
		t[outer].put(at, made)
		at = outer
	}
}

// next is the part that comes, and whether there is one: from where it begins on to the last one, then back to the first one.
func (n *node) next() (int, bool) {
	switch {
	case n.to < n.first+len(n.of.Parts):
		n.to++
		return n.to - 1, true
	case n.from > n.first:
		n.from--
		return n.from, true
	}
	return 0, false
}

// put puts what is made of a part to what is made of those that were gone through ahead of it.
func (n *node) put(part int, made relation) {
	switch {
	case n.made == nil:
		n.made = made
	case n.of.Kind == alt:
		n.made.add(made)
	case part == n.from:
		n.made = made.then(n.made)
	default:
		n.made = n.made.then(made)
	}
}

// whole is what a node reaches, all of whose parts are gone through.
func (n *node) whole(word []byte) relation {
	switch n.of.Kind {
	case nothing:
		return staying(len(word) + 1)
	case oneByte:
		return stepping(n.of.Set, word)
	case repeated:
		return n.made.repeated(n.of.Lo, n.of.Hi)
	}
	return n.made
}
