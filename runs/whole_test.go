package runs

import (
	"math"
	"math/big"
	"slices"
	"strconv"
	"strings"
	"testing"

	"ostinato/api"
)

// plainly are a word's runs, from its end on.
func plainly(word string) []api.Run {
	var l []api.Run
	for at := len(word); at > 0; {
		end := at
		for at > 0 && word[at-1] == word[end-1] {
			at--
		}
		l = append(l, run(word[at], int64(end-at)))
	}
	slices.Reverse(l)
	return l
}

// spelt is the word that a text of runs tells.
func spelt(t *testing.T, text string) string {
	t.Helper()
	var word strings.Builder
	for _, field := range strings.Fields(text) {
		digits, often, more := strings.Cut(field, "*")
		b, e := strconv.ParseUint(digits, 16, 8)
		times := 1
		if more {
			times, _ = strconv.Atoi(often)
		}
		if e != nil || len(digits) != 2 || more && times < 2 {
			t.Fatalf("%q in %q", field, text)
		}
		word.WriteString(strings.Repeat(string([]byte{byte(b)}), times))
	}
	return word.String()
}

// round fails, if a word isn't packed as it should be, or doesn't come again.
func round(t *testing.T, word string) {
	t.Helper()
	want := plainly(word)
	l, e := Pack([]byte(word))
	if len(want) > api.MaxRuns {
		if e != api.ErrLimit || len(l) > 0 || Formed(want) {
			t.Errorf("%q has %d runs: %v, error %d", word, len(want), l, e)
		}
		return
	}
	if e != api.OK || !slices.Equal(l, want) || !Formed(l) || Size(l) != int64(len(word)) {
		t.Errorf("%q: %v, error %d", word, l, e)
	}
	w, e := Unpack(l, len(word))
	if e != api.OK || string(w) != word {
		t.Errorf("%q comes again as %q, error %d", word, w, e)
	}
	if w, e := Unpack(l, len(word)-1); e != api.ErrLimit || len(w) > 0 {
		t.Errorf("%q, of one byte less: %q, error %d", word, w, e)
	}
	if text := Text(l); spelt(t, text) != word || strings.TrimSpace(text) != text || strings.Contains(text, "  ") {
		t.Errorf("%q is written %q", word, text)
	}
}

// picker picks numbers from 0 up to, but not with, another: in each run of the tests the same ones.
func picker() func(below int) int {
	state := uint64(20)
	return func(below int) int {
		state = state*6364136223846793005 + 1442695040888963407
		return int((state >> 33) % uint64(below))
	}
}

// P12.3: what is packed is unpacked as it was: all words of three bytes that are short.
func TestRoundShort(t *testing.T) {
	words := []string{""}
	for i := 0; len(words[i]) < 9; i++ {
		round(t, words[i])
		words = append(words, words[i]+"\x00", words[i]+"a", words[i]+"\xff")
	}
}

// P12.3: what is packed is unpacked as it was: words of about as many runs as may be, and of any bytes.
func TestRoundLong(t *testing.T) {
	pick := picker()
	for range 20000 {
		var word strings.Builder
		bytes, most := 2+pick(255), 1+pick(9)
		for range pick(2 * api.MaxRuns) {
			word.WriteString(strings.Repeat(string([]byte{byte(pick(bytes))}), 1+pick(most)))
		}
		round(t, word.String())
	}
}

// isFormed tells whether runs are formed: the chapter's words, in numbers without end.
func isFormed(l []api.Run) (bool, int64) {
	all := new(big.Int)
	for i, r := range l {
		all.Add(all, big.NewInt(r.Times))
		if r.Times <= 0 || i > 0 && r.Byte == l[i-1].Byte {
			return false, 0
		}
	}
	if all.Cmp(new(big.Int).Lsh(big.NewInt(1), 62)) > 0 || len(l) > 200 {
		return false, 0
	}
	return true, all.Int64()
}

// merged are runs, those that have one byte and stand side by side made one; false, if a number is too great for that.
func merged(l []api.Run) ([]api.Run, bool) {
	var m []api.Run
	for i := 0; i < len(l); {
		times, j := new(big.Int), i
		for ; j < len(l) && l[j].Byte == l[i].Byte; j++ {
			times.Add(times, big.NewInt(l[j].Times))
		}
		if !times.IsInt64() {
			return nil, false
		}
		m = append(m, run(l[i].Byte, times.Int64()))
		i = j
	}
	return m, true
}

// mixed are runs of few bytes, with numbers small, great, and wrong.
func mixed(pick func(int) int, many int) []api.Run {
	great := []int64{whole, whole - 1, whole + 1, whole / 2, whole/2 - 1, whole/2 + 1, whole / 4, whole / 8, math.MaxInt64, math.MaxInt64 - 1, math.MaxInt32, 1 << 40}
	wrong := []int64{0, -1, math.MinInt64, -whole, -7}
	var l []api.Run
	for i := range many {
		r := run(byte((i+pick(5)/4)%3), int64(1+pick(9)))
		switch pick(12) {
		case 0, 1:
			r.Times = great[pick(len(great))]
		case 2:
			if pick(6) == 0 {
				r.Times = wrong[pick(len(wrong))]
			}
		}
		l = append(l, r)
	}
	return l
}

// P12.1, P12.2: of runs with any numbers, what is formed, and what they make together.
func TestMixed(t *testing.T) {
	pick := picker()
	told := map[api.Errno]int{}
	for range 200000 {
		var words [][]api.Run
		var all []api.Run
		want := api.OK
		for range pick(5) {
			w := mixed(pick, pick(4))
			if pick(40) == 0 {
				w = singles(api.MaxRuns - pick(3))
			}
			formed, size := isFormed(w)
			if Formed(w) != formed || Size(w) != size {
				t.Fatalf("%v: formed: %v, of %d bytes, not %d", w, Formed(w), Size(w), size)
			}
			if !formed {
				want = api.ErrArg
			}
			words, all = append(words, w), append(all, w...)
		}
		made, fit := merged(all)
		if formed, _ := isFormed(made); want == api.OK && (!fit || !formed) {
			want = api.ErrLimit
		}
		if want != api.OK {
			made = nil
		}
		told[want]++
		if l, e := Join(words...); e != want || !slices.Equal(l, made) {
			t.Fatalf("%v: %v, error %d, not %v, %d", words, l, e, made, want)
		}
	}
	for _, e := range []api.Errno{api.OK, api.ErrArg, api.ErrLimit} {
		if told[e] < 3000 {
			t.Errorf("the error %d is told %d times only", e, told[e])
		}
	}
}

// P12.2, P12.3: what words make together is unpacked as they are, one behind the other.
func TestJoinedRound(t *testing.T) {
	pick := picker()
	for range 20000 {
		var words [][]api.Run
		all := ""
		for range pick(7) {
			var word strings.Builder
			for range pick(6) {
				word.WriteString(strings.Repeat("ab"[pick(2):][:1], 1+pick(4)))
			}
			l, _ := Pack([]byte(word.String()))
			words, all = append(words, l), all+word.String()
		}
		l, e := Join(words...)
		w, err := Unpack(l, len(all))
		if e != api.OK || err != api.OK || string(w) != all || !slices.Equal(l, plainly(all)) {
			t.Errorf("%v: %q, errors %d, %d, not %q", words, w, e, err, all)
		}
	}
}
