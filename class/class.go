// Package class is layer 1: sets of bytes. See shared/doc/01-class.md.
package class

import (
	"slices"

	"ostinato/api"
)

// Of is the class of just these bytes.
func Of(bytes ...byte) api.Class {
	var c api.Class
	for _, b := range bytes {
		c[b>>6] |= 1 << (b & 63)
	}
	return c
}

// Range is the class of the bytes from lo to hi: of none, if lo is above hi.
func Range(lo, hi byte) api.Class {
	var c api.Class
	// An int goes past 255, where a byte would begin anew.
	for b := int(lo); b <= int(hi); b++ {
		c[b>>6] |= 1 << (b & 63)
	}
	return c
}

// Has tells whether b is in c.
func Has(c api.Class, b byte) bool {
	return bit(c, b) == 1
}

// bit is b's bit of c: 1, if b is in it, else 0.
func bit(c api.Class, b byte) uint64 {
	return c[b>>6] >> (b & 63) & 1
}

// And is the class of what is in both.
func And(a, b api.Class) api.Class {
	for i, w := range b {
		a[i] &= w
	}
	return a
}

// Or is the class of what is in one of them.
func Or(a, b api.Class) api.Class {
	for i, w := range b {
		a[i] |= w
	}
	return a
}

// Not is the class of what isn't in c.
func Not(c api.Class) api.Class {
	for i, w := range c {
		c[i] = ^w
	}
	return c
}

// Empty tells whether nothing is in c.
func Empty(c api.Class) bool {
	return c == api.Class{}
}

// Size is how many bytes are in c.
func Size(c api.Class) int {
	n := 0
	for _, w := range c {
		for ; w != 0; w >>= 1 {
			n += int(w & 1)
		}
	}
	return n
}

// Least is the least byte of c, and true; 0 and false, if there is none.
func Least(c api.Class) (byte, bool) {
	for i, w := range c {
		for b := i << 6; w != 0; b, w = b+1, w>>1 {
			if w&1 == 1 {
				return byte(b), true
			}
		}
	}
	return 0, false
}

// Parts are the largest classes whose bytes none of l tells apart, by their least bytes.
func Parts(l ...api.Class) []api.Class {
	var part [256]int
	// Lists have no greatest length, but a key has: so many classes at once as a word has bits.
	for some := range slices.Chunk(l, 64) {
		part = split(part, some)
	}
	return gather(part)
}

// split tells apart, in each part, the bytes that one of at most 64 classes tells apart. Going through the bytes as they rise, it numbers the new parts by their least bytes.
func split(part [256]int, classes []api.Class) [256]int {
	numbers := map[[2]uint64]int{}
	for i, old := range part {
		key := [2]uint64{uint64(old), members(classes, byte(i))}
		number, met := numbers[key]
		if !met {
			number = len(numbers)
			numbers[key] = number
		}
		part[i] = number
	}
	return part
}

// members has a bit for each of at most 64 classes: whether b is in it.
func members(classes []api.Class, b byte) uint64 {
	var m uint64
	for _, c := range classes {
		m = m<<1 | bit(c, b)
	}
	return m
}

// gather makes a class of each part's bytes, in the order of the parts' numbers, which begin with 0 and leave none out.
func gather(part [256]int) []api.Class {
	l := make([]api.Class, slices.Max(part[:])+1)
	for i, p := range part {
		l[p][i>>6] |= 1 << (i & 63)
	}
	return l
}
