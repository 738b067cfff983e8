package stream

import (
	"slices"

	"ostinato/api"
	"ostinato/class"
	"ostinato/config"
	"ostinato/cset"
	"ostinato/moves"
	"ostinato/place"
)

// arrivals are what comes to positions by one byte: which of those without a scope are reached; and of the others, by the counts of the scopes within the outermost one, where that one's come from.
type arrivals struct {
	auto    *moves.Auto
	reached []bool
	within  []map[counts][]source
}

func newArrivals(a *moves.Auto) *arrivals {
	places := len(a.Map.Sets)
	return &arrivals{auto: a, reached: make([]bool, places), within: make([]map[counts][]source, places)}
}

// begin is what comes by the first byte.
func (l *arrivals) begin(b byte) {
	for _, c := range config.Begin(*l.auto, b) {
		l.enter(c)
	}
}

// follow is what comes by a byte behind others. To a position without a scope that is reached already nothing more can come.
func (l *arrivals) follow(now *behind, b byte) {
	for from, list := range l.auto.Moves {
		if !now.someAt(from) {
			continue
		}
		for _, m := range list {
			if !l.reached[m.To] && class.Has(l.auto.Map.Sets[m.To], b) {
				l.move(now, from, m)
			}
		}
	}
}

// move makes a move from a position, of all configs there.
func (l *arrivals) move(now *behind, from int, m moves.Move) {
	if now.reached[from] {
		to, _ := config.May(*l.auto, api.Config{At: from}, m)
		l.enter(to)
	}
	for inner, set := range now.within[from] {
		if m.Keep == 0 && !m.Again {
			l.leave(with(from, inner, outermost(l.auto, from).Low), m, now.sets[set])
		} else {
			l.stay(with(from, inner, 1), m, set)
		}
	}
}

// leave makes a move that leaves the outermost scope, of a config with a count that lets it: a set tells whether there is such a one.
func (l *arrivals) leave(c api.Config, m moves.Move, set *cset.Set) {
	if !set.Done() {
		return
	}
	if to, may := config.May(*l.auto, c, m); may {
		l.enter(to)
	}
}

// stay makes a move within the outermost scope, of a config with the count 1, which has a next one: whether the other counts have one is the set's own matter.
func (l *arrivals) stay(c api.Config, m moves.Move, set int) {
	to, may := config.May(*l.auto, c, m)
	switch {
	case !may:
	case m.Keep == 0:
		l.come(to, again(set))
	default:
		l.come(to, kept(set))
	}
}

// enter comes to a config from outside of all scopes around it.
func (l *arrivals) enter(to api.Config) {
	if around := l.auto.Map.Around[to.At]; len(around) > 0 {
		l.come(to, entered(around[0]))
	} else {
		l.reached[to.At] = true
	}
}

// come comes to all configs that are like one, but for the count of the outermost scope, which is from a source.
func (l *arrivals) come(to api.Config, from source) {
	inner := counts(to.Count)
	inner[0] = 0
	if l.within[to.At] == nil {
		l.within[to.At] = map[counts][]source{}
	}
	l.within[to.At][inner] = append(l.within[to.At][inner], from)
}

// outermost is the outermost scope around a position that has one.
func outermost(a *moves.Auto, at int) place.Scope {
	return a.Map.Scopes[a.Map.Around[at][0]]
}

// settled is what is behind the byte, made of the sets that were there ahead of it; these are used up.
func (l *arrivals) settled(ahead []*cset.Set) behind {
	now := behind{reached: l.reached, within: make([]map[counts]int, len(l.within))}
	all := recipes{numbers: map[string]int{}}
	for at, places := range l.within {
		if len(places) == 0 {
			continue
		}
		now.within[at] = make(map[counts]int, len(places))
		for inner, from := range places {
			slices.Sort(from)
			now.within[at][inner] = all.number(slices.Compact(from))
		}
	}
	now.sets = all.made(l.auto.Map.Scopes, ahead)
	now.dropEmpty()
	return now
}
