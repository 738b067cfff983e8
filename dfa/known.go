package dfa

import (
	"ostinato/api"
	"ostinato/config"
	"ostinato/moves"
)

// known are the configs that were met, numbered in the order in which they were. However many states have a config, what its moves come to is asked once; and by the numbers states are told in less room than by the configs.
type known struct {
	auto    moves.Auto
	numbers map[api.Config]uint32
	list    []one
}

// one is a config that was met; if that was asked, the numbers of those to which its moves come; and the state behind which it was met last.
type one struct {
	config api.Config
	asked  bool
	next   []uint32
	behind int
}

// nowhere is the state behind which a config was met last that was met behind none.
const nowhere = -1

func newKnown(a moves.Auto) *known {
	return &known{auto: a, numbers: map[api.Config]uint32{}}
}

// number is a config's number, new or not.
func (k *known) number(c api.Config) uint32 {
	n, met := k.numbers[c]
	if !met {
		n = uint32(len(k.list))
		k.numbers[c] = n
		k.list = append(k.list, one{config: c, behind: nowhere})
	}
	return n
}

// first are the numbers of the configs behind a byte at the beginning.
func (k *known) first(b byte) []uint32 {
	var l []uint32
	for _, c := range config.Begin(k.auto, b) {
		l = append(l, k.number(c))
	}
	return l
}

// next are the numbers of those to which a config's moves come, by whatever byte. Some of them may be there more than once.
func (k *known) next(n uint32) []uint32 {
	if k.list[n].asked {
		return k.list[n].next
	}
	from := k.list[n].config
	var l []uint32
	for _, m := range k.auto.Moves[from.At] {
		if to, may := config.May(k.auto, from, m); may {
			l = append(l, k.number(to))
		}
	}
	k.list[n].asked, k.list[n].next = true, l
	return l
}

// met tells whether a config is met behind a state for the first time.
func (k *known) met(n uint32, behind int) bool {
	if k.list[n].behind == behind {
		return false
	}
	k.list[n].behind = behind
	return true
}

// position is that of a config.
func (k *known) position(n uint32) int {
	return k.list[n].config.At
}
