package fork

import (
	"reflect"
	"slices"
	"testing"

	"ostinato/class"
	"ostinato/moves"
	"ostinato/place"
)

// texts are of automata with and without forks, at the beginning and behind a byte.
func texts() []string {
	return []string{"", "~", "a", "a{2,3}a", "a{2}a", "ab|ac", "(ab?){3,}c", "(a?b{2,}){2,4}b", "(a{5}b{7}){8,9}a", nested, great}
}

// roomy is a list with the same elements, and room behind them, in which something stands.
func roomy[T any](l []T, spare ...T) []T {
	return append(slices.Clone(l), spare...)[:len(l)]
}

// roomyAuto is a text's automaton, with room behind its lists, in which something stands that would make forks, and have moves agree, where they don't.
func roomyAuto(t *testing.T, text string) moves.Auto {
	t.Helper()
	a := auto(t, text)
	for i := range a.Moves {
		a.Moves[i] = roomy(a.Moves[i], keep(1, 0), keep(2, 0), again(1, 0))
		a.Map.Around[i] = roomy(a.Map.Around[i], 0, 0, 0, 0)
	}
	a.Moves = roomy(a.Moves, []moves.Move{keep(1, 0), keep(2, 0)})
	a.Map.Around = roomy(a.Map.Around, []int{0})
	a.Map.Sets = roomy(a.Map.Sets, class.Of('q'), class.Range('a', 'z'))
	a.Map.Scopes = roomy(a.Map.Scopes, place.Scope{Low: 7, High: 9})
	a.First, a.Last = roomy(a.First, 1, 1, 2), roomy(a.Last, true, true)
	return a
}

// rooms are the lists of an automaton, with the room behind them.
func rooms(a moves.Auto) []any {
	l := []any{a.Map.Sets[:cap(a.Map.Sets)], a.Map.Scopes[:cap(a.Map.Scopes)], a.First[:cap(a.First)], a.Last[:cap(a.Last)], a.Moves[:cap(a.Moves)], a.Map.Around[:cap(a.Map.Around)]}
	for i := range a.Moves {
		l = append(l, a.Moves[i][:cap(a.Moves[i])], a.Map.Around[i][:cap(a.Map.Around[i])])
	}
	return l
}

// R5: an automaton is left as it is, the spare room of its lists too; what stands there is none of it.
func TestAutomatonLeft(t *testing.T) {
	for _, text := range texts() {
		a, like, plain := roomyAuto(t, text), roomyAuto(t, text), auto(t, text)
		for range 2 {
			want, has := Find(plain)
			if f, is := Find(a); f != want || is != has {
				t.Errorf("%q: %v %v, not %v %v", text, f, is, want, has)
			}
			for position := range len(a.Moves) + 1 {
				for _, x := range wrong() {
					Agree(a, position, x, again(1, 0))
					Agree(a, position, again(1, 0), x)
				}
			}
			for position, l := range plain.Moves {
				for _, x := range l {
					for _, y := range l {
						c, _ := Agree(plain, position, x, y)
						agreeOn(t, text, a, position, x, y, c)
					}
				}
			}
		}
		if !reflect.DeepEqual(a, like) || !reflect.DeepEqual(rooms(a), rooms(like)) {
			t.Errorf("%q: the automaton is changed", text)
		}
	}
}

// wipe writes over all that an automaton has.
func wipe(a *moves.Auto) {
	for i := range a.Moves {
		clear(a.Moves[i])
		clear(a.Map.Around[i])
	}
	clear(a.Map.Sets)
	clear(a.Map.Scopes)
	clear(a.First)
	clear(a.Last)
}

// R5, R7: nothing is kept of an automaton: another one like it has the same fork, whatever has become of the first.
func TestNothingKept(t *testing.T) {
	for _, text := range texts() {
		a, like := auto(t, text), auto(t, text)
		want, has := Find(a)
		wipe(&a)
		if f, is := Find(like); f != want || is != has {
			t.Errorf("%q: %v %v, not %v %v", text, f, is, want, has)
		}
	}
}
