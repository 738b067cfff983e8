package letters

import (
	"reflect"
	"slices"
	"testing"

	"ostinato/api"
	"ostinato/class"
	"ostinato/moves"
)

// texts are of automata whose sets overlap.
func texts() []string {
	return []string{"[a-m]{3}[k-z]", `[^a-f\xff]*`, "", `(a{2,3}b?){2}\x00`, "~"}
}

// roomy is an automaton with room behind its sets, in which something stands, and all that is there.
func roomy(a moves.Auto) (moves.Auto, []api.Class) {
	all := append(slices.Clone(a.Map.Sets), class.Of('q'), class.Of('0', 'k'), class.Range('b', 'y'))
	a.Map.Sets = all[:len(a.Map.Sets)]
	return a, all
}

// R5: automata are left as they are, their spare room too, as is the list of them.
func TestAutomataLeft(t *testing.T) {
	want := read(t, texts()...)
	var l []moves.Auto
	var rooms, before [][]api.Class
	for _, a := range read(t, texts()...) {
		a, room := roomy(a)
		l, rooms, before = append(l, a), append(rooms, room), append(before, slices.Clone(room))
	}
	x := Make(l...)
	for i := range l {
		x.Spell([]byte("akz"))
		x.Plain([]byte("akz"))
		Make(l[i])
		Make(l[i:]...)
		Make(l[i], l[0], l[i])
	}
	if !reflect.DeepEqual(l, want) || !reflect.DeepEqual(rooms, before) {
		t.Errorf("changed to %v, with %v", l, rooms)
	}
	is(t, "with room behind the sets", x, Make(want...).Sets...)
}

// R5: letters are in memory of their own: neither they nor automata change with the other, nor one answer with another.
func TestLettersOwn(t *testing.T) {
	for _, some := range [][]string{nil, {""}, {"a"}, texts()[:1], texts(), {"a", "a"}} {
		l, like := read(t, some...), read(t, some...)
		x, other := Make(l...), Make(l...)
		want := slices.Clone(x.Sets)
		for i := range l {
			clear(l[i].Map.Sets)
			l[i] = moves.Auto{}
		}
		is(t, some, x, want...)
		clear(x.Sets[:cap(x.Sets)])
		x.Of[0] = 9
		is(t, some, other, want...)
		is(t, some, Make(like...), want...)
		if !reflect.DeepEqual(like, read(t, some...)) {
			t.Errorf("%q: the answer is part of the automata", some)
		}
	}
}

// R5: a word is left as it is, its spare room too; letters are, too.
func TestWordLeft(t *testing.T) {
	for _, x := range samples(t) {
		sets, of := slices.Clone(x.Sets), x.Of
		room := []byte("\x00aczm!\xff-room")
		word := room[:7]
		for range 2 {
			x.Spell(word)
			x.Plain(word)
			x.Spell(word[:0])
			x.Plain(word[:0])
			x.Byte(0)
		}
		if string(room) != "\x00aczm!\xff-room" || !slices.Equal(x.Sets, sets) || x.Of != of {
			t.Errorf("changed to %q, %v", room, x)
		}
	}
}

// R5: what is told of a word is in memory of its own.
func TestWordOwn(t *testing.T) {
	for _, x := range samples(t) {
		word := []byte("\x00aczm!\xff")
		plain, spelt := x.Plain(word), x.Spell(word)
		plainly, wanted := string(plain), slices.Clone(spelt)
		copy(word, "zzzzzzz")
		if string(plain) != plainly || !slices.Equal(spelt, wanted) {
			t.Errorf("%q, %v: written over with the word", plain, spelt)
		}
		copy(word, "\x00aczm!\xff")
		other, otherSpelt := x.Plain(word), x.Spell(word)
		clear(plain[:cap(plain)])
		clear(spelt[:cap(spelt)])
		if string(word) != "\x00aczm!\xff" || string(other) != plainly || !slices.Equal(otherSpelt, wanted) {
			t.Errorf("%q, %q, %v: written over with the answer", word, other, otherSpelt)
		}
		// What is plain already is answered anew, too.
		again := x.Plain(other)
		clear(again[:cap(again)])
		if string(other) != plainly {
			t.Errorf("%q: a plain word is its own answer", other)
		}
	}
}
