package show

import (
	"slices"
	"strings"
	"testing"

	"ostinato/api"
	"ostinato/class"
	"ostinato/syntax"
)

// comesAgain fails, if a tree isn't read from its text as it was; its text is answered.
func comesAgain(t *testing.T, n api.Node) string {
	t.Helper()
	text := Text(n)
	m, at, e := syntax.Parse(text)
	if e != api.OK || !syntax.Same(m, n) {
		t.Errorf("%v: %q, read as %v %d %d", n, text, m, at, e)
	}
	return text
}

// grown are trees made of one, two or three of some.
func grown(of []api.Node) []api.Node {
	var l []api.Node
	for _, a := range of {
		for _, b := range [][2]int64{{0, -1}, {1, -1}, {0, 1}, {0, 0}, {1, 1}, {7, api.MaxBound}, {api.MaxBound, -1}} {
			l = append(l, repeat(a, b[0], b[1]))
		}
		for _, b := range of {
			l = append(l, row(a, b), either(a, b), row(b, a, b), either(a, b, a))
		}
	}
	return l
}

// partner is where the bracket at i of a text is shut. In the text no bracket stands for itself.
func partner(text string, i int) int {
	open := 0
	for j := i; j < len(text); j++ {
		switch text[j] {
		case '(':
			open++
		case ')':
			open--
		}
		if open == 0 {
			return j
		}
	}
	return -1
}

// asksForBrackets fails, if the text of a tree would be read as the tree without two of its brackets, too.
func asksForBrackets(t *testing.T, text string, n api.Node) {
	t.Helper()
	for i := range len(text) {
		if text[i] != '(' {
			continue
		}
		j := partner(text, i)
		if m, _, e := syntax.Parse(text[:i] + text[i+1:j] + text[j+1:]); e == api.OK && syntax.Same(m, n) {
			t.Errorf("%q: brackets at %d and %d", text, i, j)
		}
	}
}

// P3.2, P3.1: each of some thousand trees is read from its text as it was, and no brackets stand there but those that are asked for.
func TestTreesComeAgain(t *testing.T) {
	small := grown([]api.Node{{}, one("a"), one("b-]\x00\xff")})
	for _, n := range append(grown(small), small...) {
		asksForBrackets(t, comesAgain(t, n), n)
	}
}

// P3.2: classes of each byte, of each run, and of all but each, are read as they were, as trees and in rows.
func TestSetsComeAgain(t *testing.T) {
	for lo := range 256 {
		for hi := lo; hi < 256; hi++ {
			c := class.Range(byte(lo), byte(hi))
			comesAgain(t, row(of(c), of(class.Not(c))))
		}
		comesAgain(t, of(class.Of(byte(lo))))
		comesAgain(t, repeat(of(class.Not(class.Of(byte(lo)))), 2, 3))
		comesAgain(t, row(of(class.Of(byte(lo), '-', '^')), one("0"), one(","), one("}")))
	}
}

// P3.2: trees at the limits of what is read come again; of those beyond, and of texts that are too long, the reader tells.
func TestLimitsComeAgain(t *testing.T) {
	a := one("a")
	deep, nested := a, a
	for i := range api.MaxDepth - 1 {
		deep = repeat(deep, api.MaxBound, -1)
		if i%2 == 0 {
			nested = row(nested, a)
		} else {
			nested = either(api.Node{}, nested)
		}
	}
	many := slices.Repeat([]api.Node{a}, api.MaxPlaces)
	long := make([]api.Node, api.MaxText+1)
	for _, n := range []api.Node{deep, nested, row(many...), either(many...), row(append(many, api.Node{})...), either(long...)} {
		comesAgain(t, n)
	}
	for _, n := range []api.Node{repeat(deep, 1, -1), row(append(many, a)...), either(append(long, a)...)} {
		if m, at, e := syntax.Parse(Text(n)); e != api.ErrLimit {
			t.Error(m, at, e)
		}
	}
}

// readTexts reads all texts that begin with one, are of some bytes, and have a length at most; those that are read are written and read again. It answers how many they are.
func readTexts(t *testing.T, bytes, text string, most int) int {
	read := 0
	if n, _, e := syntax.Parse(text); e == api.OK {
		read++
		asksForBrackets(t, comesAgain(t, n), n)
	}
	if len(text) == most {
		return read
	}
	for i := range len(bytes) {
		read += readTexts(t, bytes, text+bytes[i:i+1], most)
	}
	return read
}

// P3.2: all short texts of some bytes are read, written, and read again as the same.
func TestTextsComeAgain(t *testing.T) {
	for bytes, most := range map[string]int{"ab()|*": 6, "a{12,}": 7, "(a)?+|": 6, "[^a-c]": 6, "\\x09n-": 5} {
		if read := readTexts(t, bytes, "", most); read < 300 {
			t.Error(bytes, read)
		}
	}
}

// P3.1, P3.2: texts that are read, written otherwise, and read again.
func TestWrittenTexts(t *testing.T) {
	for text, want := range map[string]string{
		"()":                    "",
		"((a))":                 "a",
		"(a|b)":                 "a|b",
		"()|a":                  "|a",
		"a|()|b":                "a||b",
		"(ab)|(c)":              "ab|c",
		"(a)(b)":                "ab",
		"((ab))c":               "(ab)c",
		"(a*)?":                 "a*?",
		"(a)*":                  "a*",
		"(())*":                 "()*",
		"a{0,}":                 "a*",
		"a{1,}":                 "a+",
		"a{0,1}":                "a?",
		"a{3,3}":                "a{3}",
		"a{007,0010}":           "a{7,10}",
		"[a]":                   "a",
		"[cba]":                 "[a-c]",
		"[ba]":                  "[ab]",
		"[a-b]":                 "[ab]",
		"[a-cb-e]":              "[a-e]",
		"[\\x00-\\xff]":         ".",
		"[^a]":                  "[\\x00-`b-\\xff]",
		"[^\\x00-\\x60c-\\xff]": "[ab]",
		"\\x61":                 "a",
		"\\x0a\\x09":            "\\n\\t",
		"\n\t \r\xff":           "\\n\\t\\x20\\x0d\\xff",
		"-^":                    "\\-\\^",
		"[(]":                   "\\(",
		"[()*]":                 "[\\(-\\*]",
		"é":                     "\\xc3\\xa9",
		"(a{1,2}){1,3}":         "a{1,2}{1,3}",
		"((a?){3,5}|b{2,})":     "a?{3,5}|b{2,}",
	} {
		writtenAgain(t, text, want)
	}
}

// P3.1, P3.2: texts that are written as they were read.
func TestSameTexts(t *testing.T) {
	for _, text := range []string{
		"", "|", "(|)()", "a**", "a{2,3}a", ".*a.{1000}", "a{2}{3}", "a{2147483647}", "(ab|c){2}", "(a|b)|c", "a|(b|(cd)*)", "a()b", "|()()", "[^\\x00-\\xff]{2,}",
		"[ab][a-c][ac][\\x00-ac-\\xff]", "\\(\\)\\[\\]\\{\\}\\|\\*\\+\\?\\.\\\\\\-\\^\\n\\t\\x20", "!\"#$%&',/09:;<=>@AZ_`az~", strings.Repeat("|", api.MaxText),
	} {
		writtenAgain(t, text, text)
	}
}

// writtenAgain fails, if a text isn't read, written as wanted, and read again as it was.
func writtenAgain(t *testing.T, text, want string) {
	t.Helper()
	n, at, e := syntax.Parse(text)
	if e != api.OK {
		t.Errorf("%q: %d %d", text, at, e)
	}
	writes(t, n, want)
	comesAgain(t, n)
}
