package span

import (
	"iter"
	"math/bits"
	"slices"

	"ostinato/api"
	"ostinato/class"
)

// row is a set of a word's places: the bit p%64 of the word p/64. A place is 0 to maxWord.
type row [maxWord/64 + 1]uint64

// has tells whether a place is in the set.
func (r *row) has(place int) bool {
	return r[place>>6]>>(place&63)&1 == 1
}

// put puts a place into the set.
func (r *row) put(place int) {
	r[place>>6] |= 1 << (place & 63)
}

// add puts all of another set's places into the set.
func (r *row) add(s *row) {
	for i, w := range s {
		r[i] |= w
	}
}

// places are those of the set, rising.
func (r *row) places() iter.Seq[int] {
	return func(yield func(int) bool) {
		for i, w := range r {
			for ; w != 0; w &= w - 1 {
				if !yield(i<<6 + bits.TrailingZeros64(w)) {
					return
				}
			}
		}
	}
}

// relation has a row for each place of a word: the places that something reaches from there.
type relation []row

// staying is what the empty word reaches: each place itself.
func staying(places int) relation {
	r := make(relation, places)
	for p := range r {
		r[p].put(p)
	}
	return r
}

// stepping is what a byte of a set reaches in a word.
func stepping(set api.Class, word []byte) relation {
	r := make(relation, len(word)+1)
	for p, b := range word {
		if class.Has(set, b) {
			r[p].put(p + 1)
		}
	}
	return r
}

// add makes it what one of both reaches.
func (r relation) add(s relation) {
	for p := range r {
		r[p].add(&s[p])
	}
}

// then is what both reach, s behind r.
func (r relation) then(s relation) relation {
	both := make(relation, len(r))
	for p := range r {
		for q := range r[p].places() {
			both[p].add(&s[q])
		}
	}
	return both
}

// repeated is what lo to hi times reach, one behind the other. Without end, as many times more as the word has bytes are enough: others take no byte.
func (r relation) repeated(lo, hi int64) relation {
	more := int64(len(r) - 1)
	if hi != -1 {
		more = hi - lo
	}
	perhaps := staying(len(r))
	perhaps.add(r)
	return r.times(lo).then(perhaps.times(more))
}

// times is what so many times reach, one behind the other: r is doubled for each bit of their number, or till twice is the same as once, from where on more times are, too.
func (r relation) times(n int64) relation {
	made := staying(len(r))
	if n == 0 {
		return made
	}
	for ; n > 1; n >>= 1 {
		if n&1 == 1 {
			made = made.then(r)
		}
		twice := r.then(r)
		if slices.Equal(twice, r) {
			break
		}
		r = twice
	}
	return made.then(r)
}

// told is the relation as lists, each in memory of its own.
func (r relation) told() [][]bool {
	l := make([][]bool, len(r))
	for p := range r {
		l[p] = make([]bool, len(r))
		for q := range r[p].places() {
			l[p][q] = true
		}
	}
	return l
}
