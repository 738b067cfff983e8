package runs

import (
	"slices"
	"strings"
	"testing"

	"ostinato/api"
)

// joins fails, if words make something else.
func joins(t *testing.T, name string, want []api.Run, words ...[]api.Run) {
	t.Helper()
	l, e := Join(words...)
	if e != api.OK || !slices.Equal(l, want) || !Formed(l) {
		t.Errorf("%s: %v, error %d, not %v", name, l, e, want)
	}
}

// no fails, if words make something, or the error is another one.
func no(t *testing.T, name string, want api.Errno, words ...[]api.Run) {
	t.Helper()
	if l, e := Join(words...); e != want || len(l) > 0 {
		t.Errorf("%s: %v, error %d, not %d", name, l, e, want)
	}
}

// P12.2: few words, with empty ones among them.
func TestJoin(t *testing.T) {
	a, b, ab := of(run('a', 1)), of(run('b', 3)), of(run('a', 1), run('b', 3))
	joins(t, "no word", nil)
	joins(t, "an empty one", nil, nil)
	joins(t, "empty ones", nil, nil, of(), nil, of())
	joins(t, "one", ab, ab)
	joins(t, "one run", b, b)
	joins(t, "two", ab, a, b)
	joins(t, "in order", of(run('b', 3), run('a', 1)), b, a)
	joins(t, "empty ones among them", ab, nil, a, of(), nil, b, nil)
	joins(t, "several", of(run('a', 1), run('b', 3), run('a', 1), run('b', 3), run('c', 9)), ab, ab, of(run('c', 9)))
	joins(t, "the byte 0", of(run(0, 2), run('a', 1), run(0, 1)), of(run(0, 1)), of(run(0, 1)), a, of(run(0, 1)))
}

// P12.2: where two runs of one byte meet, they are one, as often as they do.
func TestJoinMeet(t *testing.T) {
	a, b, ba := of(run('a', 2)), of(run('b', 3)), of(run('b', 3), run('a', 2))
	joins(t, "two", of(run('a', 4)), a, a)
	joins(t, "three", of(run('a', 6)), a, a, a)
	joins(t, "empty ones between", of(run('a', 6)), nil, a, nil, of(), a, nil, a)
	joins(t, "at the end", of(run('b', 3), run('a', 4)), ba, a)
	joins(t, "at the beginning", of(run('b', 6), run('a', 2)), b, ba)
	joins(t, "at both", of(run('b', 6), run('a', 4)), b, ba, a)
	joins(t, "twice in a row", of(run('b', 3), run('a', 6)), ba, a, a)
	joins(t, "in turns", of(run('a', 4), run('b', 6), run('a', 2)), a, a, b, ba)
	joins(t, "itself", of(run('b', 3), run('a', 2), run('b', 3), run('a', 2)), ba, ba)
	joins(t, "far apart", of(run('a', 2), run('b', 3), run('a', 2)), a, b, a)
	joins(t, "of other times", of(run('a', 1<<40+3), run('b', 1)), of(run('a', 1)), of(run('a', 1<<40)), a, of(run('b', 1)))
	joins(t, "very often", of(run('a', 200000)), slices.Repeat([][]api.Run{a}, 100000)...)
	joins(t, "very often, with empty ones", of(run('a', 200000)), slices.Repeat([][]api.Run{nil, a, {}}, 100000)...)
}

// P12.2: one that isn't formed, wherever it stands, and whatever the others would come to.
func TestJoinUnformed(t *testing.T) {
	a, great, many := of(run('a', 1)), of(run('a', whole)), singles(api.MaxRuns)
	for name, l := range unformed() {
		for _, words := range [][][]api.Run{
			{l}, {l, a}, {a, l}, {a, l, a}, {nil, l}, {l, nil}, {l, l}, {a, a, a, a, l},
			{great, great, l}, {l, great, great}, {great, l, great}, {great, great, great, great, l}, {many, many, l}, {l, many, many}, {many, l, many}, {many, great, many, l},
		} {
			no(t, name, api.ErrArg, words...)
		}
	}
	no(t, "made up for", api.ErrArg, of(run('a', -1)), of(run('a', 2)))
	no(t, "made up for, behind", api.ErrArg, of(run('a', 2)), of(run('a', -1)))
	no(t, "of great ones made less", api.ErrArg, great, of(run('a', -5)), of(run('b', 1)))
}

// P12.2: just as many runs as may be, and more.
func TestJoinManyRuns(t *testing.T) {
	a, b, all := of(run('a', 1)), of(run('b', 1)), singles(api.MaxRuns)
	half := singles(api.MaxRuns / 2)
	last := slices.Clone(all)
	last[api.MaxRuns-1].Times = 2
	joins(t, "all", all, all)
	joins(t, "all, and empty ones", all, nil, all, nil)
	joins(t, "two halves", all, half, half)
	joins(t, "as one more meets", last, all, b)
	joins(t, "as one more meets, first", append(of(run('a', 2)), all[1:]...), a, all)
	joins(t, "one by one", all, slices.Repeat([][]api.Run{a, b}, api.MaxRuns/2)...)
	joins(t, "one less, and one more", all, singles(api.MaxRuns-1), b)
	no(t, "one more", api.ErrLimit, all, a)
	no(t, "one more, first", api.ErrLimit, b, all)
	no(t, "one more, empty ones between", api.ErrLimit, all, nil, a)
	no(t, "one more, then as many as meet", api.ErrLimit, all, a, a, a)
	no(t, "one more, of two", api.ErrLimit, all, of(run('b', 1), run('a', 1)))
	no(t, "two halves and one", api.ErrLimit, half, half, a)
	no(t, "twice as many", api.ErrLimit, all, all)
	no(t, "one by one, one more", api.ErrLimit, append(slices.Repeat([][]api.Run{a, b}, api.MaxRuns/2), a)...)
	no(t, "far more", api.ErrLimit, slices.Repeat([][]api.Run{a, b}, 100000)...)

	odd, even := singles(api.MaxRuns/2+1), singles(api.MaxRuns/2)
	no(t, "one too many, though two meet", api.ErrLimit, odd, odd)
	met := slices.Concat(odd, even[1:])
	met[len(odd)-1].Times = 2
	joins(t, "no more, as two meet", met, odd, even)
}

// P12.2: just as many bytes as may be, and more; numbers that would not fit together.
func TestJoinManyBytes(t *testing.T) {
	a, b, half, great := of(run('a', 1)), of(run('b', 1)), of(run('a', whole/2)), of(run('a', whole))
	less := of(run('a', whole-1))
	joins(t, "all", great, great)
	joins(t, "all, and empty ones", great, nil, great, nil, of())
	joins(t, "halves that meet", great, half, half)
	joins(t, "halves", of(run('a', whole/2), run('b', whole/2)), half, of(run('b', whole/2)))
	joins(t, "one that meets", great, less, a)
	joins(t, "one", of(run('a', whole-1), run('b', 1)), less, b)
	joins(t, "one, first", of(run('b', 1), run('a', whole-1)), b, less)
	for name, words := range map[string][][]api.Run{
		"one more":              {great, a},
		"one more, first":       {a, great},
		"one more of another":   {great, b},
		"one more, another one": {b, great},
		"halves and one":        {half, half, a},
		"halves, one between":   {half, b, half},
		"one too many":          {less, a, b},
		"twice as many":         {great, great},
		"round to less than 0":  {great, great, a},
		"round to 0":            {great, great, great, great},
		"round to 1":            {great, great, great, great, a},
		"round to 0, by halves": {half, half, half, half, half, half, half, half},
		"round, others between": {great, b, great, b, great, b, great, b},
	} {
		no(t, name, api.ErrLimit, words...)
	}
	no(t, "bytes, then runs", api.ErrLimit, great, singles(api.MaxRuns))
	no(t, "runs, then bytes", api.ErrLimit, singles(api.MaxRuns), singles(api.MaxRuns), great)
}

// P12.2: cut anywhere, a word's parts make it again.
func TestJoinCuts(t *testing.T) {
	for _, word := range []string{"", "a", "aaa", "ab", "aabbb", "abcabc", "aabaab\x00\x00\xff", strings.Repeat("a", 20) + "b" + strings.Repeat("c", 20), waves(50)} {
		want, _ := Pack([]byte(word))
		for i := range len(word) + 1 {
			for j := i; j <= len(word); j++ {
				first, _ := Pack([]byte(word[:i]))
				middle, _ := Pack([]byte(word[i:j]))
				last, _ := Pack([]byte(word[j:]))
				joins(t, word, want, first, middle, last)
			}
		}
		var one [][]api.Run
		for _, b := range []byte(word) {
			one = append(one, of(run(b, 1)))
		}
		joins(t, word+", byte by byte", want, one...)
	}
}
