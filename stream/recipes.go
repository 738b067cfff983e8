package stream

import (
	"strconv"

	"ostinato/cset"
	"ostinato/place"
)

// source tells where counts of a set come from: below 0 from a scope that is entered, else from a set that was there ahead of the byte, whose counts are kept, or begun once more.
type source int

// entered is the source of a scope that is entered.
func entered(scope int) source {
	return source(-1 - scope)
}

// kept is the source of a set's counts as they are.
func kept(set int) source {
	return source(2 * set)
}

// again is the source of a set's counts, each begun once more.
func again(set int) source {
	return source(2*set + 1)
}

// scope is the scope that is entered, and whether one is.
func (s source) scope() (int, bool) {
	if s < 0 {
		return int(-1 - s), true
	}
	return 0, false
}

// recipes are the lists of sources, rising, of which sets are to be made, each list once: places to which the same comes have one set in common, so that a set is copied only where its counts go different ways.
type recipes struct {
	lists   [][]source
	numbers map[string]int
}

// number is a list's number, new or not.
func (r *recipes) number(list []source) int {
	var key []byte
	for _, from := range list {
		key = append(strconv.AppendInt(key, int64(from), 10), ' ')
	}
	number, met := r.numbers[string(key)]
	if !met {
		number = len(r.lists)
		r.numbers[string(key)] = number
		r.lists = append(r.lists, list)
	}
	return number
}

// made are the sets of all lists, by their numbers, made of those that were there ahead of the byte, which are used up.
func (r *recipes) made(scopes []place.Scope, ahead []*cset.Set) []*cset.Set {
	stock := stocked(ahead, r.uses(2*len(ahead)))
	sets := make([]*cset.Set, len(r.lists))
	for i, list := range r.lists {
		scope, enters := list[0].scope()
		if enters {
			list = list[1:]
		}
		if len(list) > 0 {
			sets[i] = stock.mixed(list, enters)
		} else {
			sets[i] = cset.New(scopes[scope])
		}
		if enters {
			sets[i].Begin()
		}
	}
	return sets
}

// uses tells of each source that is a set's in how many lists it stands.
func (r *recipes) uses(sources int) []int {
	uses := make([]int, sources)
	for _, list := range r.lists {
		for _, from := range list {
			if _, enters := from.scope(); !enters {
				uses[from]++
			}
		}
	}
	return uses
}

// stock has of each source that is used its set, and in how many lists it is.
type stock struct {
	sets []*cset.Set
	uses []int
}

// stocked makes the sources of sets. What isn't kept too is begun once more in place, without a copy.
func stocked(ahead []*cset.Set, uses []int) stock {
	s := stock{make([]*cset.Set, len(uses)), uses}
	for i, set := range ahead {
		s.sets[kept(i)] = set
		if uses[again(i)] == 0 {
			continue
		}
		if uses[kept(i)] > 0 {
			set = set.Clone()
		}
		set.Next()
		s.sets[again(i)] = set
	}
	return s
}

// mixed is a set of all counts of some sources, which are at least one. It is the first source's own set, unless that is changed by it, or will be, and others ask for it too.
func (s *stock) mixed(list []source, changes bool) *cset.Set {
	set := s.sets[list[0]]
	if s.uses[list[0]] > 1 && (changes || len(list) > 1) {
		set = set.Clone()
	}
	for _, from := range list[1:] {
		set.Merge(s.sets[from])
	}
	return set
}
