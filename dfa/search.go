package dfa

import (
	"slices"

	"ostinato/api"
	"ostinato/class"
	"ostinato/config"
	"ostinato/letters"
	"ostinato/moves"
)

// search meets states, and gives them numbers in the order in which it meets them.
type search struct {
	known     *known
	bytes     []byte         // of each letter its byte
	places    []places       // of each letter the positions that have it
	keys      []string       // of each state its configs; state 0 has none
	found     map[string]int // of each state's configs its number, but for state 0: that isn't found again
	states    int            // how many may be met
	remaining int            // how many configs those that are still to be met may have in all
}

// places is a set of positions: the bit of each. There are never more than api.MaxPlaces, so that a word has room for them.
type places uint64

// newSearch has met the beginning.
func newSearch(a moves.Auto, x letters.Letters, states, configs int) *search {
	s := &search{known: newKnown(a), keys: []string{""}, found: map[string]int{}, states: states, remaining: configs}
	for i := range x.Sets {
		b, _ := x.Byte(i)
		s.bytes = append(s.bytes, b)
		s.places = append(s.places, having(a.Map.Sets, b))
	}
	return s
}

// having are the positions that have a byte: what stands first in their sets is of no position, and has none.
func having(sets []api.Class, b byte) places {
	var p places
	for at, s := range sets {
		if class.Has(s, b) {
			p |= 1 << at
		}
	}
	return p
}

// many is how many states were met.
func (s *search) many() int {
	return len(s.keys)
}

// next are the numbers of the states behind one, letter by letter, and true; none and false, if there are more states than may be. Letters that lead to the same positions lead to the same state, which is looked for once.
func (s *search) next(at int) ([]int, bool) {
	all := s.behind(at)
	reached := s.reached(all)
	states := map[places]int{}
	var row []int
	for _, has := range s.places {
		to, met := states[has&reached]
		if !met {
			to = s.number(s.key(all, has))
			states[has&reached] = to
		}
		if s.beyond() {
			return nil, false
		}
		row = append(row, to)
	}
	return row, true
}

// behind are the numbers of the configs behind a state, by whatever byte, rising, each once.
func (s *search) behind(at int) []uint32 {
	var all []uint32
	meet := func(l []uint32) {
		for _, n := range l {
			if s.known.met(n, at) {
				all = append(all, n)
			}
		}
	}
	if at == 0 {
		for _, b := range s.bytes {
			meet(s.known.first(b))
		}
	}
	for _, n := range numbers(s.keys[at]) {
		meet(s.known.next(n))
	}
	slices.Sort(all)
	return all
}

// reached are the positions of some configs.
func (s *search) reached(l []uint32) places {
	var p places
	for _, n := range l {
		p |= 1 << s.known.position(n)
	}
	return p
}

// key is made of those configs that are at some positions: of each one's number four bytes.
func (s *search) key(l []uint32, of places) []byte {
	var key []byte
	for _, n := range l {
		if of>>s.known.position(n)&1 == 1 {
			key = append(key, byte(n>>24), byte(n>>16), byte(n>>8), byte(n))
		}
	}
	return key
}

// numbers are those of the configs of which a key is made.
func numbers(key string) []uint32 {
	l := make([]uint32, 0, len(key)/4)
	for i := 0; i < len(key); i += 4 {
		l = append(l, uint32(key[i])<<24|uint32(key[i+1])<<16|uint32(key[i+2])<<8|uint32(key[i+3]))
	}
	return l
}

// number is the number of the state with a key, met now or before.
func (s *search) number(key []byte) int {
	at, met := s.found[string(key)]
	if !met {
		at = len(s.keys)
		s.keys = append(s.keys, string(key))
		s.found[s.keys[at]] = at
		s.remaining -= len(key) / 4
	}
	return at
}

// beyond tells whether more states were met than may be, or they have more configs.
func (s *search) beyond() bool {
	return len(s.keys) > s.states || s.remaining < 0
}

// configs are those of a state, rising.
func (s *search) configs(at int) []api.Config {
	var l []api.Config
	for _, n := range numbers(s.keys[at]) {
		l = append(l, s.known.list[n].config)
	}
	slices.SortFunc(l, config.Order)
	return l
}

// accepts tells whether a state does. Ahead of all bytes there is no config that could tell it.
func (s *search) accepts(at int) bool {
	if at == 0 {
		return s.known.auto.Empty
	}
	for _, n := range numbers(s.keys[at]) {
		if config.Accepts(s.known.auto, s.known.list[n].config) {
			return true
		}
	}
	return false
}
