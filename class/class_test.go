package class

import (
	"slices"
	"testing"

	"ostinato/api"
)

// plain is a set of bytes told byte by byte, to hold classes against.
type plain [256]bool

func plainOf(c api.Class) plain {
	var p plain
	for i := range p {
		p[i] = c[i/64]/(1<<(i%64))%2 == 1
	}
	return p
}

// samples are classes with the edges of words in and out, none, all, and some between.
func samples() []api.Class {
	l := []api.Class{
		{},
		{^uint64(0), ^uint64(0), ^uint64(0), ^uint64(0)},
		{^uint64(0)},
		{0, ^uint64(0)},
		{0, 0, ^uint64(0)},
		{0, 0, 0, ^uint64(0)},
		{0x5555555555555555, 0x5555555555555555, 0x5555555555555555, 0x5555555555555555},
		{1 | 1<<63, 1 | 1<<63, 1 | 1<<63, 1 | 1<<63},
		{0x0123456789abcdef, 0xfedcba9876543210, 0x0f1e2d3c4b5a6978, 0x8796a5b4c3d2e1f0},
	}
	for i := range 256 {
		var c api.Class
		c[i/64] = 1 << (i % 64)
		l = append(l, c)
	}
	return l
}

// P1.1: Of has just the bytes that it is given, in whatever order and however often they come.
func TestOf(t *testing.T) {
	if c := Of(); c != (api.Class{}) {
		t.Error("of none", c)
	}
	for i := range 256 {
		var want api.Class
		want[i/64] = 1 << (i % 64)
		if c := Of(byte(i)); c != want {
			t.Error(i, c)
		}
	}
	want := api.Class{1 | 1<<63, 1, 1 << 63, 1 << 63}
	for _, l := range [][]byte{{0, 63, 64, 191, 255}, {255, 64, 0, 191, 63}, {63, 0, 64, 64, 255, 191, 0, 0, 63, 255}} {
		given := slices.Clone(l)
		if c := Of(l...); c != want || !slices.Equal(l, given) {
			t.Error(given, c, l)
		}
	}
	var all []byte
	for i := range 256 {
		all = append(all, byte(255-i))
	}
	if c := Of(all...); c != (api.Class{^uint64(0), ^uint64(0), ^uint64(0), ^uint64(0)}) {
		t.Error("of all", c)
	}
}

// P1.1: Range, of each pair of bytes.
func TestRange(t *testing.T) {
	for lo := range 256 {
		for hi := range 256 {
			var want plain
			for i := range want {
				want[i] = lo <= i && i <= hi
			}
			if c := Range(byte(lo), byte(hi)); plainOf(c) != want {
				t.Error(lo, hi, c)
			}
		}
	}
}

// P1.1: Has, Not, Empty, Size and Least, of each sample.
func TestOne(t *testing.T) {
	for _, c := range samples() {
		p := plainOf(c)
		size, least := 0, -1
		for i, in := range p {
			if Has(c, byte(i)) != in || Has(Not(c), byte(i)) == in {
				t.Error("has", c, i)
			}
			if in {
				size++
			}
			if in && least < 0 {
				least = i
			}
		}
		if Size(c) != size || Empty(c) != (size == 0) {
			t.Error("size", c, Size(c), Empty(c))
		}
		if b, ok := Least(c); ok != (size > 0) || ok && int(b) != least || !ok && b != 0 {
			t.Error("least", c, b, ok)
		}
	}
}

// P1.1: And and Or, of each two samples.
func TestTwo(t *testing.T) {
	l := samples()
	for _, a := range l {
		for _, b := range l {
			var both, one plain
			p, q := plainOf(a), plainOf(b)
			for i := range p {
				both[i], one[i] = p[i] && q[i], p[i] || q[i]
			}
			if plainOf(And(a, b)) != both || plainOf(Or(a, b)) != one {
				t.Error(a, b)
			}
		}
	}
}

// partsPlainly puts each byte to the part from whose least byte no class tells it apart.
func partsPlainly(l []api.Class) []api.Class {
	var sets []plain
	for _, c := range l {
		sets = append(sets, plainOf(c))
	}
	var least []int
	var parts []api.Class
	for i := range 256 {
		at := slices.IndexFunc(least, func(j int) bool {
			return !slices.ContainsFunc(sets, func(s plain) bool { return s[i] != s[j] })
		})
		if at < 0 {
			at = len(parts)
			least = append(least, i)
			parts = append(parts, api.Class{})
		}
		parts[at][i/64] |= 1 << (i % 64)
	}
	return parts
}

// lists are lists of classes, with members twice and in several orders, and longer than a word has bits.
func lists() [][]api.Class {
	s := samples()
	am, kz := Range('a', 'm'), Range('k', 'z')
	back := slices.Clone(s)
	slices.Reverse(back)
	return [][]api.Class{
		nil,
		{},
		{{}},
		{{}, {}},
		{Not(api.Class{})},
		{{}, Not(api.Class{}), {}},
		{am},
		{Not(am)},
		{am, Not(am), am},
		{am, kz},
		{kz, am},
		{kz, am, am, {}, kz, Not(am)},
		{Of(0), Of(255)},
		{Of(255), Of(0), Of(255)},
		s[:9],
		s[:63],
		s[:64],
		s[:65],
		s[100:228],
		s[100:229],
		s,
		back,
		slices.Concat(s, back),
	}
}

// P1.2: Parts, of each list, against parts found plainly; and given lists stay.
func TestParts(t *testing.T) {
	for i, l := range lists() {
		given := slices.Clone(l)
		got := Parts(l...)
		if want := partsPlainly(l); !slices.Equal(got, want) {
			t.Error(i, got, want)
		}
		if !slices.Equal(l, given) {
			t.Error(i, "changed")
		}
	}
}

// P1.2: the chapter's example, and what there is of few classes.
func TestPartsByHand(t *testing.T) {
	all := Range(0, 255)
	want := []api.Class{Or(Range(0, 'a'-1), Range('z'+1, 255)), Range('a', 'j'), Range('k', 'm'), Range('n', 'z')}
	for _, l := range [][]api.Class{{Range('a', 'm'), Range('k', 'z')}, {Range('k', 'z'), Range('a', 'm')}, {Range('k', 'z'), Range('a', 'm'), Range('k', 'z'), {}, all}} {
		if p := Parts(l...); !slices.Equal(p, want) {
			t.Error(l, p)
		}
	}
	for _, l := range [][]api.Class{nil, {{}}, {all}, {all, {}, all}} {
		if p := Parts(l...); !slices.Equal(p, []api.Class{all}) {
			t.Error(l, p)
		}
	}
	if p := Parts(Of(5)); !slices.Equal(p, []api.Class{Not(Of(5)), Of(5)}) {
		t.Error(p)
	}
	if p := Parts(Of(0)); !slices.Equal(p, []api.Class{Of(0), Range(1, 255)}) {
		t.Error(p)
	}
}

// P1.2: order and repeats of the classes change nothing.
func TestPartsInAnyOrder(t *testing.T) {
	for i, l := range lists() {
		want := Parts(l...)
		back := slices.Clone(l)
		slices.Reverse(back)
		if p := Parts(back...); !slices.Equal(p, want) {
			t.Error(i, "reversed", p)
		}
		if p := Parts(slices.Concat(l, back, l)...); !slices.Equal(p, want) {
			t.Error(i, "repeated", p)
		}
	}
}

// P1.2, and rule R5: an answer is new memory, and what is handed in is left as it is, its spare room too.
func TestPartsAreNew(t *testing.T) {
	room := []api.Class{Range('a', 'm'), Range('k', 'z'), Of(1), Of(2)}
	given := slices.Clone(room)
	p := Parts(room[:2]...)
	want := slices.Clone(p)
	p[0], p[1] = api.Class{}, api.Class{}
	if !slices.Equal(room, given) {
		t.Error("changed", room)
	}
	if q := Parts(room[:2]...); !slices.Equal(q, want) {
		t.Error("shared", q)
	}
}

// P1.3: each byte is in just one part, and each class is made up of parts.
func TestWhatFollows(t *testing.T) {
	for i, l := range lists() {
		parts := Parts(l...)
		for b := range 256 {
			n := 0
			for _, p := range parts {
				if Has(p, byte(b)) {
					n++
				}
			}
			if n != 1 {
				t.Error(i, b, "is in", n)
			}
		}
		for _, c := range l {
			var made api.Class
			for _, p := range parts {
				if !Empty(And(p, c)) {
					made = Or(made, p)
				}
			}
			if made != c {
				t.Error(i, c, "isn't made up of parts")
			}
		}
	}
}
