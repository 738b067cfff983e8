package runs

import (
	"bytes"
	"math"
	"slices"
	"strconv"
	"strings"
	"testing"

	"ostinato/api"
)

// whole is how many bytes a word in runs may have.
const whole = 1 << 62

// run is a byte, so many times.
func run(b byte, times int64) api.Run {
	return api.Run{Byte: b, Times: times}
}

// of is a list of runs.
func of(l ...api.Run) []api.Run {
	return l
}

// waves are so many bytes, a and b by turns: each is a run.
func waves(many int) string {
	return strings.Repeat("ab", many/2+1)[:many]
}

// singles are so many runs, a and b by turns, each once.
func singles(many int) []api.Run {
	l := make([]api.Run, many)
	for i := range l {
		l[i] = run("ab"[i%2], 1)
	}
	return l
}

// unformed are runs that aren't formed, with what is wrong of them.
func unformed() map[string][]api.Run {
	most := int64(math.MaxInt64)
	return map[string][]api.Run{
		"no times":                of(run('a', 0)),
		"no times, first":         of(run('a', 0), run('b', 1)),
		"no times, between":       of(run('a', 1), run('b', 0), run('c', 1)),
		"no times, between same":  of(run('a', 1), run('b', 0), run('a', 1)),
		"no times, last":          of(run('a', 1), run('b', 0)),
		"the byte 0 no times":     of(run(0, 0)),
		"fewer than none":         of(run('a', -1)),
		"fewer, made up for":      of(run('a', -1), run('b', 5)),
		"fewer, behind more":      of(run('a', 5), run('b', -1)),
		"fewest":                  of(run('a', math.MinInt64)),
		"fewest, behind":          of(run('a', 1), run('b', math.MinInt64)),
		"fewest twice, and some":  of(run('a', math.MinInt64), run('b', math.MinInt64), run('c', 7)),
		"neighbours":              of(run('a', 1), run('a', 1)),
		"neighbours, other times": of(run('a', 1), run('a', 2)),
		"neighbours, behind":      of(run('a', 1), run('b', 1), run('b', 1)),
		"neighbours, between":     of(run('a', 1), run('b', 3), run('b', 3), run('a', 1)),
		"neighbours of 0":         of(run(0, 1), run(0, 1)),
		"neighbours of 255":       of(run(255, 1), run(255, 2)),
		"neighbours, at the end":  append(singles(api.MaxRuns-1), run('a', 1)),
		"one run too many":        singles(api.MaxRuns + 1),
		"far too many":            singles(100000),
		"a byte too many":         of(run('a', whole+1)),
		"one more of another":     of(run('a', whole), run('b', 1)),
		"one more of the first":   of(run('a', 1), run('b', whole)),
		"one more of the last":    of(run('a', whole/2), run('b', whole/2-1), run('c', 2)),
		"halves and one":          of(run('a', whole/2), run('b', whole/2), run('c', 1)),
		"twice as many":           of(run('a', whole), run('b', whole)),
		"most":                    of(run('a', most)),
		"round to -1":             of(run('a', 1), run('b', most), run('c', most)),
		"round to 0":              of(run('a', most), run('b', most), run('c', 2)),
		"round to 5":              of(run('a', whole), run('b', whole), run('c', whole), run('d', whole), run('e', 5)),
		"round to 7, from below":  of(run('a', 5), run('b', most), run('c', most), run('d', 4)),
	}
}

// P12.1: what is formed, how many bytes it has, and its text (P12.2).
func TestFormed(t *testing.T) {
	many := singles(api.MaxRuns)
	for i := range many {
		many[i].Times = whole / api.MaxRuns
	}
	for _, c := range []struct {
		l    []api.Run
		size int64
	}{
		{nil, 0}, {of(), 0}, {of(run('a', 1)), 1}, {of(run(0, 1)), 1}, {of(run(255, 3)), 3}, {of(run('a', 3), run('b', 1)), 4},
		{of(run('a', 1), run('b', 1), run('a', 1)), 3}, {of(run('a', 2), run('b', 2), run('c', 2)), 6}, {of(run('b', 7), run('a', 7)), 14},
		{singles(api.MaxRuns - 1), api.MaxRuns - 1}, {singles(api.MaxRuns), api.MaxRuns}, {many, whole / api.MaxRuns * api.MaxRuns},
		{of(run('a', math.MaxInt32), run('b', math.MaxInt32)), 2 * math.MaxInt32}, {of(run('a', 1<<40), run('b', 1)), 1<<40 + 1},
		{of(run('a', whole)), whole}, {of(run('a', whole-1)), whole - 1}, {of(run('a', whole-1), run('b', 1)), whole}, {of(run('a', 1), run('b', whole-1)), whole},
		{of(run('a', whole/2), run('b', whole/2)), whole}, {of(run('a', whole/4), run('b', whole/2), run('a', whole/4)), whole}, {append(singles(api.MaxRuns-1), run('b', whole-api.MaxRuns+1)), whole},
	} {
		if !Formed(c.l) || Size(c.l) != c.size || Text(c.l) == "" && len(c.l) > 0 {
			t.Errorf("%v: formed: %v, of %d bytes, not %d", c.l, Formed(c.l), Size(c.l), c.size)
		}
	}
}

// P12.1, P12.2: what isn't formed has no bytes, no word and no text, and makes nothing, whatever else is asked of it.
func TestUnformed(t *testing.T) {
	for name, l := range unformed() {
		if Formed(l) || Size(l) != 0 || Text(l) != "" {
			t.Errorf("%s: formed: %v, of %d bytes: %q", name, Formed(l), Size(l), Text(l))
		}
		for _, most := range []int{math.MinInt, -1, 0, 1, 200, 201, math.MaxInt32, math.MaxInt} {
			if w, e := Unpack(l, most); e != api.ErrArg || len(w) > 0 {
				t.Errorf("%s: at most %d: %d bytes, error %d", name, most, len(w), e)
			}
		}
	}
}

// packs fails, if a word's runs are others.
func packs(t *testing.T, word string, want ...api.Run) {
	t.Helper()
	l, e := Pack([]byte(word))
	if e != api.OK || !slices.Equal(l, want) || !Formed(l) || Size(l) != int64(len(word)) {
		t.Errorf("%.20q: %v, error %d, not %v", word, l, e, want)
	}
}

// P12.1: words of few runs.
func TestPack(t *testing.T) {
	if l, e := Pack(nil); e != api.OK || len(l) > 0 {
		t.Error("nothing", l, e)
	}
	packs(t, "")
	packs(t, "aaab", run('a', 3), run('b', 1))
	packs(t, "abbb", run('a', 1), run('b', 3))
	packs(t, "aabaa", run('a', 2), run('b', 1), run('a', 2))
	packs(t, "abab", run('a', 1), run('b', 1), run('a', 1), run('b', 1))
	packs(t, "\x00\x00\xff\x00\x80\x7f\x7f", run(0, 2), run(255, 1), run(0, 1), run(128, 1), run(127, 2))
	for b := range 256 {
		packs(t, string([]byte{byte(b)}), run(byte(b), 1))
		packs(t, string([]byte{byte(b), byte(b)}), run(byte(b), 2))
		packs(t, string([]byte{byte(b), byte(b), byte(b + 1)}), run(byte(b), 2), run(byte(b+1), 1))
		packs(t, string([]byte{byte(b), byte(b + 128), byte(b)}), run(byte(b), 1), run(byte(b+128), 1), run(byte(b), 1))
	}
	const many = 3000000
	packs(t, strings.Repeat("a", many), run('a', many))
	packs(t, "b"+strings.Repeat("a", many)+"cc", run('b', 1), run('a', many), run('c', 2))
}

// P12.1: words of just as many runs as may be, of however many bytes, and of more.
func TestPackMost(t *testing.T) {
	packs(t, waves(api.MaxRuns-1), singles(api.MaxRuns-1)...)
	packs(t, waves(api.MaxRuns), singles(api.MaxRuns)...)
	last := singles(api.MaxRuns)
	last[api.MaxRuns-1].Times = 100001
	packs(t, waves(api.MaxRuns)+strings.Repeat("b", 100000), last...)
	for name, word := range map[string]string{
		"one more":             waves(api.MaxRuns + 1),
		"one more, of a third": waves(api.MaxRuns) + "c",
		"one more, much later": waves(api.MaxRuns) + strings.Repeat("b", 100000) + "a",
		"one more, long":       waves(api.MaxRuns) + strings.Repeat("a", 100000),
		"two more":             waves(api.MaxRuns + 2),
		"each twice":           strings.Repeat("aabb", api.MaxRuns/2) + "a",
		"far more":             waves(1000000),
	} {
		if l, e := Pack([]byte(word)); e != api.ErrLimit || len(l) > 0 {
			t.Errorf("%s: %v, error %d", name, l, e)
		}
	}
}

// P12.1: a word comes, if it has no more bytes than may be.
func TestUnpack(t *testing.T) {
	for _, word := range []string{"", "a", "\x00", "\xff", "aaab", "abbba", "ab", "aabb\x00\x00a", strings.Repeat("a", 1000), waves(api.MaxRuns), waves(api.MaxRuns) + strings.Repeat("b", 5000)} {
		l, _ := Pack([]byte(word))
		for _, most := range []int{math.MinInt, math.MinInt32, -1, 0, 1, len(word) - 2, len(word) - 1, len(word), len(word) + 1, 2*len(word) + 7, math.MaxInt32, math.MaxInt} {
			w, e := Unpack(l, most)
			if len(word) > most && (e != api.ErrLimit || len(w) > 0) || len(word) <= most && (e != api.OK || string(w) != word) {
				t.Errorf("%.20q, at most %d: %d bytes, error %d", word, most, len(w), e)
			}
		}
	}
	const many = 3000000
	if w, e := Unpack(of(run('b', 1), run('a', many)), many+1); e != api.OK || !bytes.Equal(w, []byte("b"+strings.Repeat("a", many))) {
		t.Errorf("%d bytes, error %d", len(w), e)
	}
}

// P12.1, R1: words that have more bytes than memory, whatever may be.
func TestUnpackFar(t *testing.T) {
	for _, l := range [][]api.Run{
		of(run('a', 1<<31)), of(run('a', math.MaxInt32), run('b', 1)), of(run('a', 1<<32)), of(run('a', 1<<32), run('b', 1)), of(run('a', 1<<40)), of(run('a', 1), run('b', 1<<47)), of(run('a', whole)), of(run('a', whole-1), run('b', 1)), of(run('a', whole/2), run('b', whole/2)),
	} {
		for _, most := range []int{math.MinInt, -1, 0, 1, api.MaxWord, math.MaxInt32, 1 << 31, 1 << 32, 1 << 40, whole - 1, whole, math.MaxInt} {
			if w, e := Unpack(l, most); e != api.ErrLimit || len(w) > 0 {
				t.Errorf("%v, at most %d: %d bytes, error %d", l, most, len(w), e)
			}
		}
	}
}

// P12.2: texts of runs; each byte has its two digits.
func TestText(t *testing.T) {
	for _, c := range []struct {
		l    []api.Run
		want string
	}{
		{nil, ""}, {of(), ""}, {of(run('a', 3), run('b', 1)), "61*3 62"},
		{of(run(0, 1)), "00"}, {of(run(9, 1)), "09"}, {of(run(10, 1)), "0a"}, {of(run(15, 1)), "0f"}, {of(run(16, 1)), "10"}, {of(run(0x5b, 1)), "5b"}, {of(run(0xb5, 1)), "b5"}, {of(run(0x99, 1)), "99"}, {of(run(0x9a, 1)), "9a"}, {of(run(0xa9, 1)), "a9"}, {of(run(0xaf, 1)), "af"}, {of(run(0xf0, 1)), "f0"}, {of(run(255, 1)), "ff"},
		{of(run(0, 2)), "00*2"}, {of(run(255, 9)), "ff*9"}, {of(run(10, 10)), "0a*10"}, {of(run('*', 100)), "2a*100"}, {of(run(' ', 1), run('*', 1), run(' ', 1)), "20 2a 20"},
		{of(run('a', 1), run('b', 2), run('c', 1), run('d', 1), run('e', 12)), "61 62*2 63 64 65*12"}, {of(run('a', whole)), "61*4611686018427387904"}, {of(run('a', 1), run('b', whole-1)), "61 62*4611686018427387903"},
		{singles(api.MaxRuns), strings.Repeat("61 62 ", api.MaxRuns/2)[:3*api.MaxRuns-1]},
	} {
		if got := Text(c.l); got != c.want {
			t.Errorf("%v: %q, not %q", c.l, got, c.want)
		}
	}
	for b := range 256 {
		digits := strconv.FormatInt(int64(b+256), 16)[1:]
		if one, more := Text(of(run(byte(b), 1))), Text(of(run(byte(b), 20))); one != digits || more != digits+"*20" {
			t.Errorf("%d: %q and %q", b, one, more)
		}
	}
}

// guarded are runs with spare room behind them, and how all of it stands.
func guarded(l []api.Run) ([]api.Run, []api.Run) {
	room := slices.Concat(l, of(run('x', 7), run('y', -8), run('a', 9)))
	return room[:len(l)], room
}

// R5: what is handed in is left as it is, its spare room too.
func TestLeft(t *testing.T) {
	word := []byte("aabb-spare")
	if l, e := Pack(word[:4]); e != api.OK || len(l) != 2 || string(word) != "aabb-spare" {
		t.Errorf("%v, error %d: %q", l, e, word)
	}
	all := slices.Collect(func(yield func([]api.Run) bool) {
		for _, l := range unformed() {
			if !yield(l) {
				return
			}
		}
	})
	all = append(all, nil, of(run('a', 1)), of(run('a', 3), run('b', 2)), of(run('b', 2), run('a', 1)), singles(api.MaxRuns), of(run('a', whole)))
	for _, x := range all {
		for _, y := range all {
			l, room := guarded(x)
			m, other := guarded(y)
			words := [][]api.Run{l, m, l, m, m}
			before, behind := slices.Clone(room), slices.Clone(other)
			Formed(l)
			Size(l)
			Text(l)
			Unpack(l, 1000)
			Join(words[:3]...)
			Join(l)
			Join(l, m)
			if !slices.Equal(room, before) || !slices.Equal(other, behind) {
				t.Errorf("%v and %v aren't left as they are: %v and %v", x, y, room, other)
			}
			for i, w := range words {
				if is := [...][]api.Run{l, m, l, m, m}[i]; len(w) != len(is) || len(w) > 0 && &w[0] != &is[0] {
					t.Errorf("%v and %v: the word %d isn't left as it is", x, y, i)
				}
			}
		}
	}
}

// R5: what comes out is in memory of its own: neither changes with the other, nor with another answer.
func TestOwn(t *testing.T) {
	word := []byte("aabb")
	l, _ := Pack(word)
	m, _ := Pack(word)
	word[0], word[3] = 'x', 'y'
	if Text(l) != "61*2 62*2" {
		t.Error("the word is written over", Text(l))
	}
	l[0], l[1] = run('c', 5), run('d', 6)
	if string(word) != "xaby" || Text(m) != "61*2 62*2" {
		t.Errorf("the answer is written over: %q, %s", word, Text(m))
	}
	one, other := of(run('a', 2), run('b', 3)), of(run('b', 1), run('c', 1))
	for name, words := range map[string][][]api.Run{
		"one": {one}, "one, with empty ones": {nil, one, {}}, "itself": {one, one}, "both": {one, other}, "the other": {other, one, nil, other},
	} {
		l, _ := Join(words...)
		m, _ := Join(words...)
		want := Text(m)
		for i := range l[:cap(l)] {
			l[:cap(l)][i] = run(byte(i), 99)
		}
		if Text(m) != want || Text(one) != "61*2 62*3" || Text(other) != "62 63" {
			t.Errorf("%s: the answer is written over: %s, %s, %s", name, Text(m), Text(one), Text(other))
		}
		one[0], other[1] = run('e', 7), run('f', 8)
		if Text(m) != want {
			t.Errorf("%s: the words are written over: %s", name, Text(m))
		}
		one[0], other[1] = run('a', 2), run('c', 1)
	}
	v, _ := Unpack(one, 5)
	w, _ := Unpack(one, 5)
	for i := range v[:cap(v)] {
		v[:cap(v)][i] = 'x'
	}
	if string(w) != "aabbb" || Text(one) != "61*2 62*3" {
		t.Errorf("the word is written over: %q, %s", w, Text(one))
	}
	one[0] = run('z', 2)
	if string(w) != "aabbb" {
		t.Errorf("the runs are written over: %q", w)
	}
}
