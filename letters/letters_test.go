package letters

import (
	"math"
	"slices"
	"strings"
	"testing"

	"ostinato/api"
	"ostinato/class"
	"ostinato/moves"
	"ostinato/syntax"
)

// auto is a tree's automaton.
func auto(t *testing.T, n api.Node) moves.Auto {
	t.Helper()
	a, e := moves.Make(n)
	if e != api.OK {
		t.Fatal(n, e)
	}
	return a
}

// read are texts' automata; in a text a ~ stands for a class of no byte.
func read(t *testing.T, texts ...string) []moves.Auto {
	t.Helper()
	var l []moves.Auto
	for _, text := range texts {
		n, at, e := syntax.Parse(strings.ReplaceAll(text, "~", `[^\x00-\xff]`))
		if e != api.OK {
			t.Fatal(text, at, e)
		}
		l = append(l, auto(t, n))
	}
	return l
}

// either is the automaton of one byte of one of some sets.
func either(t *testing.T, l ...api.Class) moves.Auto {
	t.Helper()
	n := api.Node{Kind: 3}
	for _, s := range append(l, api.Class{}, api.Class{}) {
		n.Parts = append(n.Parts, api.Node{Kind: 1, Set: s})
	}
	return auto(t, n)
}

// upTo is the class of the bytes from each first one to the one behind it.
func upTo(ends ...byte) api.Class {
	var c api.Class
	for l := range slices.Chunk(ends, 2) {
		c = class.Or(c, class.Range(l[0], l[1]))
	}
	return c
}

// is fails, if letters aren't those with some sets.
func is(t *testing.T, name any, x Letters, want ...api.Class) {
	t.Helper()
	if !slices.Equal(x.Sets, want) {
		t.Errorf("%q: %v, not %v", name, x.Sets, want)
		return
	}
	for b, i := range x.Of {
		if i < 0 || i >= len(want) || !class.Has(want[i], byte(b)) {
			t.Errorf("%q: the byte %d is of the letter %d", name, b, i)
		}
	}
}

// holds fails, if letters aren't those of automata: whether they are apart, have all bytes, stand in order, make up each set, and are no more than needed.
func holds(t *testing.T, name any, x Letters, l ...moves.Auto) {
	t.Helper()
	for b := range 256 {
		if n := owners(x.Sets, byte(b)); !slices.Equal(n, []int{x.Of[b]}) {
			t.Fatalf("%q: the byte %d is in the letters %d, and of the letter %d", name, b, n, x.Of[b])
		}
	}
	var of []api.Class
	for _, a := range l {
		of = append(of, a.Map.Sets...)
	}
	for i, s := range x.Sets {
		if i > 0 && first(x.Sets[i-1]) >= first(s) {
			t.Errorf("%q: the letter %d isn't behind the one ahead", name, i)
		}
		for _, set := range of {
			if both := class.And(s, set); both != s && !class.Empty(both) {
				t.Errorf("%q: the letter %d is cut by %v", name, i, set)
			}
		}
		for k, other := range x.Sets[:i] {
			if !slices.ContainsFunc(of, func(set api.Class) bool { return class.Empty(class.And(s, set)) != class.Empty(class.And(other, set)) }) {
				t.Errorf("%q: nothing tells the letters %d and %d apart", name, k, i)
			}
		}
	}
}

// owners are the numbers of the sets that have a byte.
func owners(sets []api.Class, b byte) []int {
	var l []int
	for i, s := range sets {
		if class.Has(s, b) {
			l = append(l, i)
		}
	}
	return l
}

// first is the least byte of a set, found byte by byte; 256 of none.
func first(s api.Class) int {
	for b := range 256 {
		if class.Has(s, byte(b)) {
			return b
		}
	}
	return 256
}

// P13.1: the letters of automata of each kind.
func TestMake(t *testing.T) {
	all, a, notA := upTo(0, 255), upTo('a', 'a'), upTo(0, 'a'-1, 'b', 255)
	ab := []api.Class{upTo(0, 'a'-1, 'c', 255), a, upTo('b', 'b')}
	for _, c := range []struct {
		texts []string
		want  []api.Class
	}{
		// No automaton, no position, all bytes.
		{nil, []api.Class{all}}, {[]string{""}, []api.Class{all}}, {[]string{"~"}, []api.Class{all}}, {[]string{"(~|)*"}, []api.Class{all}}, {[]string{"a~"}, []api.Class{all}}, {[]string{"a{0}"}, []api.Class{all}}, {[]string{"."}, []api.Class{all}}, {[]string{".*.{3}"}, []api.Class{all}}, {[]string{`[\x00-\xff]`}, []api.Class{all}}, {[]string{"", "~", "."}, []api.Class{all}},
		// One byte, the first and the last one among them.
		{[]string{"a"}, []api.Class{notA, a}}, {[]string{"[^a]"}, []api.Class{notA, a}}, {[]string{`\x00`}, []api.Class{upTo(0, 0), upTo(1, 255)}}, {[]string{`[^\x00]`}, []api.Class{upTo(0, 0), upTo(1, 255)}}, {[]string{`\xff`}, []api.Class{upTo(0, 254), upTo(255, 255)}}, {[]string{`\x00\xff`}, []api.Class{upTo(0, 0), upTo(1, 254), upTo(255, 255)}}, {[]string{`\xff\x00`}, []api.Class{upTo(0, 0), upTo(1, 254), upTo(255, 255)}},
		// Sets that are equal, that have what others haven't, that are apart.
		{[]string{"aaa"}, []api.Class{notA, a}}, {[]string{"(a{2,9}a|a)*"}, []api.Class{notA, a}}, {[]string{"a[^a]"}, []api.Class{notA, a}}, {[]string{"[^a]|a."}, []api.Class{notA, a}}, {[]string{`[\x00-\x7f][\x80-\xff]`}, []api.Class{upTo(0, 127), upTo(128, 255)}}, {[]string{"ab"}, ab}, {[]string{"b|a{2}"}, ab}, {[]string{"b[a]*"}, ab},
		// Within one another, and overlapping.
		{[]string{"[a-z][f-h]"}, []api.Class{upTo(0, 'a'-1, 'z'+1, 255), upTo('a', 'e', 'i', 'z'), upTo('f', 'h')}}, {[]string{"[f-h]{2}[a-z]"}, []api.Class{upTo(0, 'a'-1, 'z'+1, 255), upTo('a', 'e', 'i', 'z'), upTo('f', 'h')}}, {[]string{"[a-m][k-z]"}, []api.Class{upTo(0, 'a'-1, 'z'+1, 255), upTo('a', 'j'), upTo('k', 'm'), upTo('n', 'z')}}, {[]string{"[ab][bc][ac]"}, []api.Class{upTo(0, 'a'-1, 'd', 255), a, upTo('b', 'b'), upTo('c', 'c')}}, {[]string{"[ab]|[ab]c"}, []api.Class{upTo(0, 'a'-1, 'd', 255), upTo('a', 'b'), upTo('c', 'c')}},
		// Sets in pieces: the least byte alone says where a letter stands.
		{[]string{`[\x00a\xff]`}, []api.Class{upTo(0, 0, 'a', 'a', 255, 255), upTo(1, 'a'-1, 'b', 254)}}, {[]string{`[\x01a\xff]`}, []api.Class{upTo(0, 0, 2, 'a'-1, 'b', 254), upTo(1, 1, 'a', 'a', 255, 255)}}, {[]string{`[az\xff][y\x00]`}, []api.Class{upTo(0, 0, 'y', 'y'), upTo(1, 'a'-1, 'b', 'x', 'z'+1, 254), upTo('a', 'a', 'z', 'z', 255, 255)}},
		// What is no position of the simple tree tells nothing apart.
		{[]string{"a|b~"}, []api.Class{notA, a}}, {[]string{"a(b|c){0}"}, []api.Class{notA, a}},
		// Several automata.
		{[]string{"a", "b"}, ab}, {[]string{"b", "a"}, ab}, {[]string{"a", "a"}, []api.Class{notA, a}}, {[]string{"a", "[^a]", "aa"}, []api.Class{notA, a}}, {[]string{"", "a"}, []api.Class{notA, a}}, {[]string{"a", "", "~"}, []api.Class{notA, a}}, {[]string{"[a-m]{3}", "[k-z]"}, []api.Class{upTo(0, 'a'-1, 'z'+1, 255), upTo('a', 'j'), upTo('k', 'm'), upTo('n', 'z')}}, {[]string{`\xff`, `\x00`, "."}, []api.Class{upTo(0, 0), upTo(1, 254), upTo(255, 255)}},
	} {
		l := read(t, c.texts...)
		x := Make(l...)
		is(t, c.texts, x, c.want...)
		holds(t, c.texts, x, l...)
	}
}

// P13.1: in whatever order automata come, and however often, their letters are the same.
func TestOrder(t *testing.T) {
	l := read(t, "[a-m]{3}[k-z]", `[^a-f\xff]*`, "", `[l-p]|\x00`, ".~|~")
	want := Make(l...)
	holds(t, "in order", want, l...)
	if len(want.Sets) != 9 {
		t.Error(want.Sets)
	}
	for ways := range 3125 {
		// In base five the digits of ways pick five, some of them twice; with the others behind them all have come.
		var picked []moves.Auto
		for range 5 {
			picked = append(picked, l[ways%5])
			ways /= 5
		}
		is(t, "picked", Make(append(picked, l...)...), want.Sets...)
		is(t, "picked behind", Make(append(slices.Clone(l), picked...)...), want.Sets...)
	}
	is(t, "one alone", Make(l[0]), Make(l[0], l[0], l[0]).Sets...)
}

// byBits are eight automata: together they tell all bytes apart, by a bit each.
func byBits(t *testing.T) []moves.Auto {
	t.Helper()
	var l []moves.Auto
	for bit := range 8 {
		var s api.Class
		for b := range 256 {
			if b>>bit&1 == 1 {
				s = class.Or(s, class.Of(byte(b)))
			}
		}
		l = append(l, either(t, s))
	}
	return l
}

// bytesOf are seven automata of 40 positions at most, a byte each, the last ones first.
func bytesOf(t *testing.T) []moves.Auto {
	t.Helper()
	var sets []api.Class
	for b := range 256 {
		sets = append(sets, class.Of(byte(255-b)))
	}
	var l []moves.Auto
	for some := range slices.Chunk(sets, api.MaxPlaces) {
		l = append(l, either(t, slices.Clone(some)...))
	}
	return l
}

// P13.1: as many letters as there are bytes, by few sets and by many; and many sets that make few letters.
func TestMany(t *testing.T) {
	var each []api.Class
	for b := range 256 {
		each = append(each, class.Of(byte(b)))
	}
	few, many := byBits(t), bytesOf(t)
	is(t, "few", Make(few...), each...)
	is(t, "many", Make(many...), each...)
	is(t, "both", Make(append(many, few...)...), each...)
	is(t, "all but one bit", Make(few[1:]...), pairs()...)
	is(t, "all but the last bytes", Make(many[1:]...), append(each[:216:216], upTo(216, 255))...)
	holds(t, "both", Make(append(few, many...)...), append(many, few...)...)
	all := slices.Repeat(read(t, "[a-m]"), 3000)
	is(t, "often", Make(append(all, read(t, "[k-z]")...)...), upTo(0, 'a'-1, 'z'+1, 255), upTo('a', 'j'), upTo('k', 'm'), upTo('n', 'z'))
}

// pairs are the classes of two bytes, the lesser one even.
func pairs() []api.Class {
	var l []api.Class
	for b := range 128 {
		l = append(l, class.Of(byte(2*b), byte(2*b+1)))
	}
	return l
}

// samples are letters: one, two, some, and as many as there are bytes.
func samples(t *testing.T) []Letters {
	t.Helper()
	return []Letters{
		Make(), Make(read(t, "a")...), Make(read(t, `\x00`)...), Make(read(t, `\xff`)...), Make(read(t, "[a-m]{3}[k-z]")...), Make(read(t, `[\x01a\xff]`, "[b-y]*")...), Make(byBits(t)[1:]...), Make(byBits(t)...),
	}
}

// P13.1: each letter's byte, and none of any other number.
func TestByte(t *testing.T) {
	for _, x := range samples(t) {
		for i, s := range x.Sets {
			if b, ok := x.Byte(i); !ok || int(b) != first(s) || x.Of[b] != i {
				t.Errorf("of %d letters the letter %d: %d, %v", len(x.Sets), i, b, ok)
			}
		}
		for _, i := range []int{-1, -2, -256, math.MinInt32, math.MinInt, len(x.Sets), len(x.Sets) + 1, 256, 257, 1 << 32, math.MaxInt32, math.MaxInt - 1, math.MaxInt} {
			if b, ok := x.Byte(i); ok || b != 0 {
				t.Errorf("of %d letters the letter %d: %d, %v", len(x.Sets), i, b, ok)
			}
		}
	}
	// 0 is a letter's byte, too.
	if b, ok := Make().Byte(0); !ok || b != 0 {
		t.Error(b, ok)
	}
	if b, ok := Make(read(t, `\xff`)...).Byte(1); !ok || b != 255 {
		t.Error(b, ok)
	}
}

// P13.2: words whose letters, and whose plain words, are told.
func TestWords(t *testing.T) {
	for _, c := range []struct {
		text, word, plain string
		spelt             []int
	}{
		{"", "", "", nil}, {"", "abc", "\x00\x00\x00", []int{0, 0, 0}}, {"a", "", "", nil}, {"a", "aba", "a\x00a", []int{1, 0, 1}}, {"[^a]", "aba", "a\x00a", []int{1, 0, 1}}, {`\x00`, "\x00a\xff\x00", "\x00\x01\x01\x00", []int{0, 1, 1, 0}}, {`\xff`, "\x00a\xff\xff", "\x00\x00\xff\xff", []int{0, 0, 1, 1}},
		{"[a-m]{3}[k-z]", "czm!", "ank\x00", []int{1, 3, 2, 0}}, {"[a-m]{3}[k-z]", "ak", "ak", []int{1, 2}}, {"[a-m]{3}[k-z]", "zyxklmabc", "nnnkkkaaa", []int{3, 3, 3, 2, 2, 2, 1, 1, 1}}, {`[\x01a\xff]`, "\xff\x00\x01\x02a", "\x01\x00\x01\x00\x01", []int{1, 0, 1, 0, 1}}, {`[\x20-\x7e]+`, "\u00e9 e", "\x00\x00  ", []int{0, 0, 1, 1}},
	} {
		x := Make(read(t, c.text)...)
		if got := x.Spell([]byte(c.word)); !slices.Equal(got, c.spelt) {
			t.Errorf("%q: %q is spelt %v, not %v", c.text, c.word, got, c.spelt)
		}
		if got := x.Plain([]byte(c.word)); string(got) != c.plain {
			t.Errorf("%q: %q is plainly %q, not %q", c.text, c.word, got, c.plain)
		}
	}
}

// told fails, if a word isn't spelt, or made plain, byte by byte, or if its plain one isn't plain.
func told(t *testing.T, x Letters, word []byte) {
	t.Helper()
	spelt, plain := x.Spell(word), x.Plain(word)
	if len(spelt) != len(word) || len(plain) != len(word) {
		t.Fatalf("%d bytes: %d letters, plainly %d bytes", len(word), len(spelt), len(plain))
	}
	for i, b := range word {
		if spelt[i] != x.Of[b] || int(plain[i]) != first(x.Sets[x.Of[b]]) {
			t.Fatalf("the byte %d: the letter %d, plainly %d", b, spelt[i], plain[i])
		}
	}
	if !slices.Equal(x.Plain(plain), plain) || !slices.Equal(x.Spell(plain), spelt) {
		t.Errorf("%q: plainly %q, of which %q is plain", word, plain, x.Plain(plain))
	}
}

// P13.2: no byte, each byte, all of them, and long words.
func TestAllBytes(t *testing.T) {
	var all []byte
	for b := range 256 {
		all = append(all, byte(b))
	}
	for _, x := range samples(t) {
		told(t, x, nil)
		told(t, x, []byte{})
		for _, b := range all {
			told(t, x, []byte{b})
			told(t, x, []byte{b, b, 0, b, 255})
		}
		told(t, x, all)
		slices.Reverse(all)
		told(t, x, slices.Repeat(all, api.MaxWord/256+1)[:api.MaxWord])
		told(t, x, slices.Repeat(all[:251], 400))
	}
}

// R1: what no call has made: letters of nothing, numbers and sets that are none's; automata that stand beside an error.
func TestStrange(t *testing.T) {
	is(t, "no tree", Make(moves.Auto{}), upTo(0, 255))
	is(t, "no tree beside one", Make(moves.Auto{}, read(t, `\x00`)[0], moves.Auto{}), upTo(0, 0), upTo(1, 255))
	if b, ok := (Letters{}).Byte(0); ok || b != 0 {
		t.Error(b, ok)
	}
	x := Letters{Sets: []api.Class{{}, class.Of('b', 'c')}}
	if b, ok := x.Byte(0); ok || b != 0 {
		t.Error("of no byte", b, ok)
	}
	for b := range x.Of {
		x.Of[b] = []int{1, 0, -1, 2, math.MinInt, math.MaxInt}[b%6]
	}
	word := []byte{0, 1, 2, 3, 4, 5, 252}
	if got := x.Plain(word); string(got) != "b\x00\x00\x00\x00\x00b" {
		t.Errorf("%q", got)
	}
	if got := x.Spell(word); !slices.Equal(got, []int{1, 0, -1, 2, math.MinInt, math.MaxInt, 1}) {
		t.Error(got)
	}
	if got := (Letters{}).Plain([]byte("ab")); string(got) != "\x00\x00" {
		t.Errorf("%q", got)
	}
	if got := (Letters{}).Spell([]byte("ab")); !slices.Equal(got, []int{0, 0}) {
		t.Error(got)
	}
}
