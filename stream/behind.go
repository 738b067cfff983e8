package stream

import (
	"maps"

	"ostinato/api"
	"ostinato/config"
	"ostinato/cset"
	"ostinato/moves"
)

// counts are a config's, but the outermost scope's, which is 0 here: a set tells all that it may be. So what one scope counts is never gone through, and what inner ones count is a map's key.
type counts [api.MaxScopes]int64

// behind is what is known of the configs behind some bytes: which positions without a scope are reached; and of each other position, by the counts of the scopes within the outermost one, the number of the set that has the outermost one's. (With one scope there are none within it, and so one set.) A set that several places have in common is there once.
type behind struct {
	reached []bool
	within  []map[counts]int
	sets    []*cset.Set
}

// some tells whether there is a config.
func (n *behind) some() bool {
	for at := range n.reached {
		if n.someAt(at) {
			return true
		}
	}
	return false
}

// someAt tells whether there is a config of a position.
func (n *behind) someAt(at int) bool {
	return n.reached[at] || len(n.within[at]) > 0
}

// accepts tells whether one of the configs accepts.
func (n *behind) accepts(a *moves.Auto) bool {
	for at := range n.reached {
		if n.acceptsAt(a, at) {
			return true
		}
	}
	return false
}

// acceptsAt tells whether one of the configs of a position accepts. Of the outermost scope a set tells whether it may be left; so the others are asked with a count of that one which lets them.
func (n *behind) acceptsAt(a *moves.Auto, at int) bool {
	if n.reached[at] && config.Accepts(*a, api.Config{At: at}) {
		return true
	}
	for inner, set := range n.within[at] {
		if n.sets[set].Done() && config.Accepts(*a, with(at, inner, outermost(a, at).Low)) {
			return true
		}
	}
	return false
}

// configs are all configs, each once.
func (n *behind) configs() []api.Config {
	var l []api.Config
	for at, is := range n.reached {
		if is {
			l = append(l, api.Config{At: at})
		}
		for inner, set := range n.within[at] {
			for _, count := range n.sets[set].Counts() {
				l = append(l, with(at, inner, count))
			}
		}
	}
	return l
}

// dropEmpty leaves out what has a set of no counts.
func (n *behind) dropEmpty() {
	for _, places := range n.within {
		maps.DeleteFunc(places, func(_ counts, set int) bool { return n.sets[set].Len() == 0 })
	}
}

// copied is the same, with sets of its own. All else may be in common: it is made anew by each byte, and never changed.
func (n *behind) copied() behind {
	own := *n
	own.sets = nil
	for _, set := range n.sets {
		own.sets = append(own.sets, set.Clone())
	}
	return own
}

// with is the config of a position, of the counts of the scopes within the outermost one, and of that one's.
func with(at int, inner counts, count int64) api.Config {
	inner[0] = count
	return api.Config{At: at, Count: inner}
}
