package moves

import (
	"iter"
	"math/bits"
)

// places is a set of positions: the bit of each. There are never more than api.MaxPlaces, so that a word has room for them.
type places uint64

// face is what a node turns to those beside it: the positions with which it begins, those with which it ends, and whether it is nullable.
type face struct {
	first, last places
	empty       bool
}

// only is the set of one position.
func only(at int) places {
	return 1 << at
}

// each are the positions of a set, rising.
func (p places) each() iter.Seq[int] {
	return func(yield func(int) bool) {
		for rest := uint64(p); rest != 0; rest &= rest - 1 {
			if !yield(bits.TrailingZeros64(rest)) {
				return
			}
		}
	}
}

// then is the face of one behind the other.
func (f face) then(g face) face {
	both := face{f.first, g.last, f.empty && g.empty}
	if f.empty {
		both.first |= g.first
	}
	if g.empty {
		both.last |= f.last
	}
	return both
}

// or is the face of one of both.
func (f face) or(g face) face {
	return face{f.first | g.first, f.last | g.last, f.empty || g.empty}
}
