package show

import (
	"ostinato/api"
)

// The kinds of nodes: see api.Node.
const (
	nothing = iota
	oneByte
	cat
	alt
	repeated
)

// part is a piece of a tree's text: what its own tree is written as, or, if it has none, text.
type part struct {
	text string
	tree *api.Node
}

// parts are what a formed tree's text is put together of. Each tree has a list of its own: more is put behind it, and no other tree's may be changed by that.
func parts(n *api.Node) []part {
	switch n.Kind {
	case oneByte:
		return []part{{text: set(n.Set)}}
	case cat:
		return below(n, "")
	case alt:
		return below(n, "|")
	case repeated:
		return append(below(n, ""), part{text: times(n.Lo, n.Hi)})
	}
	return nil
}

// below are the texts of the trees right below one, in brackets where they need them, with that text between.
func below(n *api.Node, between string) []part {
	var l []part
	for i := range n.Parts {
		tree := part{tree: &n.Parts[i]}
		if i > 0 {
			l = append(l, part{text: between})
		}
		if bracketed(n.Parts[i].Kind, n.Kind) {
			l = append(l, part{text: "("}, tree, part{text: ")"})
		} else {
			l = append(l, tree)
		}
	}
	return l
}

// bracketed tells whether brackets stand around a tree of that kind that is right below one of the kind in.
func bracketed(kind, in int) bool {
	switch kind {
	case alt:
		return true
	case cat, nothing:
		// Between bars a row needs none, and an empty one is read as nothing.
		return in != alt
	}
	return false
}
