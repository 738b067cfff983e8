package fork

import (
	"ostinato/api"
	"ostinato/moves"
	"ostinato/place"
)

// endless is the High of a scope that has no greatest number of times: its counts stay at Low.
const endless = -1

// counts are those of a scope from one to another one: none, if from is above to.
type counts struct {
	from, to int64
}

// agreed is Agree, of moves that the position has.
func agreed(a *moves.Auto, at int, x, y moves.Move) (api.Config, bool) {
	c := api.Config{At: at}
	for i, number := range a.Map.Around[at] {
		s := a.Map.Scopes[number]
		both := allowed(s, i, x).and(allowed(s, i, y))
		if both.from > both.to {
			return api.Config{}, false
		}
		c.Count[i] = both.from
	}
	return c, true
}

// allowed are the counts of the scope that is so many within the outermost one at which it lets a move be made.
func allowed(s place.Scope, i int, m moves.Move) counts {
	l := counts{from: 1, to: greatest(s)}
	switch {
	case i < m.Keep:
		// What is kept may have any count.
	case i > m.Keep || !m.Again:
		l.from = s.Low
	case s.High != endless:
		// It is begun once more: at High there is no next time.
		l.to = s.High - 1
	}
	return l
}

// greatest is the greatest count in a scope.
func greatest(s place.Scope) int64 {
	if s.High == endless {
		return s.Low
	}
	return s.High
}

// and are the counts that are among both.
func (l counts) and(m counts) counts {
	return counts{from: max(l.from, m.from), to: min(l.to, m.to)}
}
