package dfa

import (
	"reflect"
	"slices"
	"testing"

	"ostinato/api"
	"ostinato/class"
	"ostinato/moves"
	"ostinato/place"
)

// texts are of tables of many kinds.
func texts() []string {
	return []string{"", "~", "a", "a{3}", "ab|[ab]c", "(a{1,2}){1,3}", "(a{2}b?){2,}", "[a-m]{3}[k-z]", "(a|b)*a(a|b){2}", nested}
}

// roomy is a list with the same elements, and room behind them, in which something stands.
func roomy[T any](l []T, spare ...T) []T {
	return append(slices.Clone(l), spare...)[:len(l)]
}

// roomyAuto is a text's automaton, with room behind its lists, in which something stands that would make it another one.
func roomyAuto(t *testing.T, text string) moves.Auto {
	t.Helper()
	a := auto(t, text)
	for i := range a.Moves {
		a.Moves[i] = roomy(a.Moves[i], moves.Move{To: 1}, moves.Move{To: 1, Again: true})
		a.Map.Around[i] = roomy(a.Map.Around[i], 0, 0, 0, 0)
	}
	a.Moves = roomy(a.Moves, []moves.Move{{To: 1}})
	a.Map.Around = roomy(a.Map.Around, []int{0})
	a.Map.Sets = roomy(a.Map.Sets, class.Of('q'), class.Range('b', 'y'))
	a.Map.Scopes = roomy(a.Map.Scopes, place.Scope{Low: 7, High: 9})
	a.First, a.Last = roomy(a.First, 1), roomy(a.Last, true, true)
	return a
}

// rooms are the lists of an automaton, with the room behind them.
func rooms(a moves.Auto) []any {
	l := []any{a.Map.Sets[:cap(a.Map.Sets)], a.Map.Scopes[:cap(a.Map.Scopes)], a.First[:cap(a.First)], a.Last[:cap(a.Last)], a.Moves[:cap(a.Moves)], a.Map.Around[:cap(a.Map.Around)]}
	for i := range a.Moves {
		l = append(l, a.Moves[i][:cap(a.Moves[i])], a.Map.Around[i][:cap(a.Map.Around[i])])
	}
	return l
}

// R5: an automaton is left as it is, the spare room of its lists too.
func TestAutomatonLeft(t *testing.T) {
	for _, text := range texts() {
		a, like := roomyAuto(t, text), roomyAuto(t, text)
		for _, budget := range []int{api.MaxStates, 3, 0} {
			if x, e := Make(a, budget); e == api.OK {
				same(t, text, x, table(t, text))
				x.Run([]byte("aab"))
				x.At([]byte("aab"))
			}
		}
		if !reflect.DeepEqual(a, like) || !reflect.DeepEqual(rooms(a), rooms(like)) {
			t.Errorf("%q: the automaton is changed", text)
		}
	}
}

// wipe writes over all that an automaton has.
func wipe(a *moves.Auto) {
	for i := range a.Moves {
		clear(a.Moves[i])
		clear(a.Map.Around[i])
	}
	clear(a.Map.Sets)
	clear(a.Map.Scopes)
	clear(a.First)
	clear(a.Last)
}

// R5: a table is in memory of its own: it doesn't change with the automaton, nor with another table of it.
func TestTableOwn(t *testing.T) {
	for _, text := range texts() {
		a, like, want := auto(t, text), auto(t, text), table(t, text)
		x, _ := Make(a, api.MaxStates)
		other, _ := Make(a, api.MaxStates)
		spoil(&x)
		same(t, text, other, want)
		if !reflect.DeepEqual(a, like) {
			t.Errorf("%q: the table is part of the automaton", text)
		}
		wipe(&a)
		same(t, text, other, want)
	}
}

// spoil writes over all that a table has, and the room behind it.
func spoil(x *Table) {
	for i := range x.States {
		spoilList(x.States[i], api.Config{At: -7})
	}
	for i := range x.Next {
		spoilList(x.Next[i], -7)
	}
	spoilList(x.States, nil)
	spoilList(x.Next, nil)
	spoilList(x.Accepts, true)
	spoilList(x.Letters.Sets, api.Class{})
	x.Letters.Of = [256]int{}
}

// spoilList writes over a list, and the room behind it.
func spoilList[T any](l []T, by T) {
	l = l[:cap(l)]
	for i := range l {
		l[i] = by
	}
}

// LANGUAGE's rule 7: no two lists of one answer share memory, the room behind them neither.
func TestListsOwn(t *testing.T) {
	for _, text := range texts() {
		want := table(t, text)
		for i := range want.States {
			x := table(t, text)
			spoilList(x.States[i], api.Config{At: -7})
			spoilList(x.Next[i], -7)
			copy(x.States[i], want.States[i])
			copy(x.Next[i], want.Next[i])
			same(t, text, x, want)
		}
	}
}

// R5: words are left as they are, their spare room too, and so is the table.
func TestWordLeft(t *testing.T) {
	for _, text := range texts() {
		x, want := table(t, text), table(t, text)
		room := []byte("aabaac\x00\xff-room")
		for most := range 9 {
			word := room[:most]
			number, is := x.At(word), x.Run(word)
			if x.At(word) != number || x.Run(word) != is || x.At(slices.Clone(word)) != number || x.Run(slices.Clone(word)) != is {
				t.Errorf("%q: %q the second time: %d, %v", text, word, x.At(word), x.Run(word))
			}
		}
		if string(room) != "aabaac\x00\xff-room" {
			t.Errorf("%q: the word is changed to %q", text, room)
		}
		same(t, text, x, want)
	}
}
