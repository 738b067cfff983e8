package syntax

import (
	"strings"

	"ostinato/api"
	"ostinato/class"
)

// No atom is a byte of marks alone, and no item one of itemMarks; a \ is neither, as it begins an escape. A byte of escapables stands for itself behind a \.
const (
	marks      = "()[]{}|*+?."
	itemMarks  = "]-^"
	escapables = marks + `\-^`
)

// reader reads a text from left to right, and ends at its first error: at is its place then.
type reader struct {
	text string
	at   int
	open []group // the innermost one last; the first one is the text's own
}

// group is what is read of what stands between two brackets: rows, and behind the last | the parts of one.
type group struct {
	rows []api.Node
	row  []api.Node
}

// put is what is read now.
func (g *group) put(n api.Node) {
	g.row = append(g.row, n)
}

// endRow makes one of the parts that are read behind the last |.
func (g *group) endRow() {
	g.rows = append(g.rows, joined(cat, g.row))
	g.row = nil
}

// joined is a node of that kind; of one part it alone, of none nothing.
func joined(kind int, parts []api.Node) api.Node {
	switch len(parts) {
	case 0:
		return api.Node{}
	case 1:
		return parts[0]
	}
	return api.Node{Kind: kind, Parts: parts}
}

// inner is the innermost group that is open.
func (r *reader) inner() *group {
	return &r.open[len(r.open)-1]
}

// next is the byte that comes, and true; 0 and false, if the text is over.
func (r *reader) next() (byte, bool) {
	if r.at == len(r.text) {
		return 0, false
	}
	return r.text[r.at], true
}

// take goes past the byte that comes, if it is b, and tells whether it is.
func (r *reader) take(b byte) bool {
	c, ok := r.next()
	if !ok || c != b {
		return false
	}
	r.at++
	return true
}

// whole reads the text.
func (r *reader) whole() (api.Node, api.Errno) {
	r.open = []group{{}}
	for b, ok := r.next(); ok; b, ok = r.next() {
		if e := r.step(b); e != api.OK {
			return api.Node{}, e
		}
	}
	if len(r.open) > 1 {
		return api.Node{}, api.ErrSyntax
	}
	return r.shut(), api.OK
}

// step reads what begins with b, the byte that comes: a bracket, a |, an atom, or how often one is repeated.
func (r *reader) step(b byte) api.Errno {
	switch b {
	case '(':
		r.open = append(r.open, group{})
	case '|':
		r.inner().endRow()
	case ')':
		if len(r.open) == 1 {
			return api.ErrSyntax
		}
		n := r.shut()
		r.inner().put(n)
	case '*', '+', '?', '{':
		return r.repeat(b)
	default:
		return r.atom(b)
	}
	r.at++
	return api.OK
}

// shut ends the innermost group, and is what it is as a tree.
func (r *reader) shut() api.Node {
	g := *r.inner()
	r.open = r.open[:len(r.open)-1]
	g.endRow()
	return joined(alt, g.rows)
}

// repeat reads what begins with b, and repeats what is ahead of it.
func (r *reader) repeat(b byte) api.Errno {
	row := r.inner().row
	if len(row) == 0 {
		return api.ErrSyntax
	}
	lo, hi, e := r.times(b)
	if e != api.OK {
		return e
	}
	last := &row[len(row)-1]
	*last = api.Node{Kind: repeated, Parts: []api.Node{*last}, Lo: lo, Hi: hi}
	return api.OK
}

// times reads how often something is repeated: what begins with b.
func (r *reader) times(b byte) (lo, hi int64, e api.Errno) {
	switch b {
	case '*':
		lo, hi = 0, -1
	case '+':
		lo, hi = 1, -1
	case '?':
		lo, hi = 0, 1
	default:
		return r.bounds()
	}
	r.at++
	return lo, hi, api.OK
}

// bounds reads a {, and all up to its }.
func (r *reader) bounds() (lo, hi int64, e api.Errno) {
	brace := r.at
	r.at++
	if lo, e = r.number(); e != api.OK {
		return 0, 0, e
	}
	if hi, e = r.upper(lo); e != api.OK {
		return 0, 0, e
	}
	if !r.take('}') {
		return 0, 0, api.ErrSyntax
	}
	if hi != -1 && lo > hi {
		r.at = brace
		return 0, 0, api.ErrSyntax
	}
	return lo, hi, api.OK
}

// upper reads what stands behind the first number, lo, ahead of the }.
func (r *reader) upper(lo int64) (int64, api.Errno) {
	if !r.take(',') {
		return lo, api.OK
	}
	if b, _ := r.next(); b == '}' {
		return -1, api.OK
	}
	return r.number()
}

// number reads one or more digits.
func (r *reader) number() (int64, api.Errno) {
	first := r.at
	var n int64
	for b, ok := r.next(); ok && '0' <= b && b <= '9'; b, ok = r.next() {
		// A number that is too great stays so, however many digits come.
		n = min(10*n+int64(b-'0'), api.MaxBound+1)
		r.at++
	}
	if r.at == first {
		return 0, api.ErrSyntax
	}
	if n > api.MaxBound {
		r.at = first
		return 0, api.ErrLimit
	}
	return n, api.OK
}

// atom reads an atom without brackets: what begins with b.
func (r *reader) atom(b byte) api.Errno {
	set, e := r.set(b)
	if e == api.OK {
		r.inner().put(api.Node{Kind: oneByte, Set: set})
	}
	return e
}

// set reads the bytes of an atom that begins with b.
func (r *reader) set(b byte) (api.Class, api.Errno) {
	switch b {
	case '.':
		r.at++
		return class.Not(api.Class{}), api.OK
	case '[':
		r.at++
		return r.items()
	}
	one, e := r.plain(marks)
	if e != api.OK {
		return api.Class{}, e
	}
	return class.Of(one), api.OK
}

// items reads what stands behind a [, and its ].
func (r *reader) items() (api.Class, api.Errno) {
	var set api.Class
	others := r.take('^')
	for first := true; first || !r.take(']'); first = false {
		item, e := r.item()
		if e != api.OK {
			return api.Class{}, e
		}
		set = class.Or(set, item)
	}
	if others {
		set = class.Not(set)
	}
	return set, api.OK
}

// item reads a byte, or two with - between.
func (r *reader) item() (api.Class, api.Errno) {
	lo, e := r.plain(itemMarks)
	if e != api.OK {
		return api.Class{}, e
	}
	between := r.at
	if !r.take('-') {
		return class.Of(lo), api.OK
	}
	hi, e := r.plain(itemMarks)
	if e != api.OK {
		return api.Class{}, e
	}
	if lo > hi {
		r.at = between
		return api.Class{}, api.ErrSyntax
	}
	return class.Range(lo, hi), api.OK
}

// plain reads a byte that is none of those, or an escape.
func (r *reader) plain(but string) (byte, api.Errno) {
	b, ok := r.next()
	if !ok || strings.IndexByte(but, b) >= 0 {
		return 0, api.ErrSyntax
	}
	r.at++
	if b == '\\' {
		return r.escaped()
	}
	return b, api.OK
}

// escaped reads what stands behind a \.
func (r *reader) escaped() (byte, api.Errno) {
	b, ok := r.next()
	switch {
	case !ok:
		return 0, api.ErrSyntax
	case b == 'x':
		r.at++
		return r.hex()
	case b == 'n':
		b = 10
	case b == 't':
		b = 9
	case strings.IndexByte(escapables, b) < 0:
		return 0, api.ErrSyntax
	}
	r.at++
	return b, api.OK
}

// hex reads two digits that are a byte's number.
func (r *reader) hex() (byte, api.Errno) {
	var n byte
	for range 2 {
		b, ok := r.next()
		digit := strings.IndexByte("0123456789abcdef", b)
		if !ok || digit < 0 {
			return 0, api.ErrSyntax
		}
		n = n<<4 | byte(digit)
		r.at++
	}
	return n, api.OK
}
