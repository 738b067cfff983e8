package syntax

import (
	"regexp"
	"strings"
	"testing"

	"ostinato/api"
)

// The chapter's grammar, as regular expressions: of the brackets alone it takes more.
const (
	escapeRule = `\\[()\[\]{}|*+?.\\^nt-]|\\x[0-9a-f][0-9a-f]`
	itemRule   = `(?:[^\]\\^-]|` + escapeRule + `)`
	atomRule   = `[^()\[\]{}|*+?.\\]|` + escapeRule + `|\.|\[\^?(?:` + itemRule + `(?:-` + itemRule + `)?)+\]`
	timesRule  = `[*+?]|\{[0-9]+(?:,[0-9]*)?\}`
)

var (
	atomToken  = regexp.MustCompile(`^(?:` + atomRule + `)`)
	timesToken = regexp.MustCompile(`^(?:` + timesRule + `)`)
	itemsToken = regexp.MustCompile(`(` + itemRule + `)(-` + itemRule + `)?`)
	manyToOne  = regexp.MustCompile(`a[at]+|\(a?(?:\|a?)*\)`)
	wholeText  = regexp.MustCompile(`^a?(?:\|a?)*$`)
)

// value is the byte of an item.
func value(item string) int {
	if item[0] != '\\' {
		return int(item[0])
	}
	switch item[1] {
	case 'x':
		const digits = "0123456789abcdef"
		return 16*strings.IndexByte(digits, item[2]) + strings.IndexByte(digits, item[3])
	case 'n':
		return 10
	case 't':
		return 9
	}
	return int(item[1])
}

// ordered tells whether in what is one atom, or one bound, nothing stands in the wrong order.
func ordered(token string) bool {
	switch {
	case len(token) < 2:
	case token[0] == '[':
		for _, m := range itemsToken.FindAllStringSubmatch(strings.TrimPrefix(token[1:len(token)-1], "^"), -1) {
			if m[2] != "" && value(m[1]) > value(m[2][1:]) {
				return false
			}
		}
	case token[0] == '{':
		n, m, two := strings.Cut(token[1:len(token)-1], ",")
		n, m = strings.TrimLeft(n, "0"), strings.TrimLeft(m, "0")
		return !two || token[len(token)-2] == ',' || len(n) < len(m) || len(n) == len(m) && n <= m
	}
	return true
}

// isExpression tells whether a text is an expression by the grammar; strict asks for the right order, too.
func isExpression(text string, strict bool) bool {
	short := ""
	for text != "" {
		token, as := text[:1], text[:1]
		if a := atomToken.FindString(text); a != "" {
			token, as = a, "a"
		} else if m := timesToken.FindString(text); m != "" {
			token, as = m, "t"
		} else if !strings.Contains("()|", token) {
			return false
		}
		if strict && !ordered(token) {
			return false
		}
		short += as
		text = text[len(token):]
	}
	for before := ""; before != short; {
		before = short
		short = manyToOne.ReplaceAllString(short, "a")
	}
	return wholeText.MatchString(short)
}

// goesOn tells whether an expression begins with a text.
func goesOn(text string, strict bool) bool {
	for _, more := range []string{"", "-", "ff", "f", "9999}", "}", "z]", "]", "-]", `\xff]`, "xff]", "ff]", "f]"} {
		for k := range strings.Count(text, "(") + 1 {
			if isExpression(text+more+strings.Repeat(")", k), strict) {
				return true
			}
		}
	}
	return false
}

// grammarLook goes through all texts of some bytes up to a length, those left out behind the first byte with which no expression goes on.
type grammarLook struct {
	t     *testing.T
	bytes string
	most  int
	seen  int
}

func (l *grammarLook) from(text string) {
	l.seen++
	if isExpression(text, true) {
		if n, at, e := Parse(text); e != api.OK || at != 0 || !Formed(n) {
			l.t.Errorf("%q is an expression: %v %d %d", text, n, at, e)
		}
	} else {
		fails(l.t, text, len(text), api.ErrSyntax)
	}
	if len(text) == l.most {
		return
	}
	for i := range len(l.bytes) {
		longer := text + l.bytes[i:i+1]
		switch {
		case goesOn(longer, true):
			l.from(longer)
		case goesOn(longer, false): // It is the order that is wrong.
			mark := "-"
			if strings.HasSuffix(longer, "}") {
				mark = "{"
			}
			l.wrongWith(longer, strings.LastIndex(text, mark))
		default:
			l.wrongWith(longer, len(text))
		}
	}
}

// wrongWith asks that the fault be told, whatever comes behind it.
func (l *grammarLook) wrongWith(text string, at int) {
	for _, more := range []string{"", ")", "a", "]", "{3,2}", "\\"} {
		fails(l.t, text+more, at, api.ErrSyntax)
	}
}

// P2.1: all short texts of some bytes, against the grammar.
func TestShortTexts(t *testing.T) {
	// Greater lengths hold as well, but take long.
	for bytes, most := range map[string]int{"a()|*.": 5, "a{12,}": 7, "({2})+": 7, "[]^-a\\": 6, "\\xa9n[-]": 5, "(a?|)[b]{0}": 4} {
		l := grammarLook{t: t, bytes: bytes, most: most}
		l.from("")
		if l.seen < 1000 {
			t.Error(bytes, l.seen)
		}
	}
}
