package show

import (
	"strings"

	"ostinato/api"
	"ostinato/class"
)

// set is what a set of bytes is written as.
func set(c api.Class) string {
	switch class.Size(c) {
	case 0:
		return `[^\x00-\xff]`
	case 1:
		b, _ := class.Least(c)
		return Byte(b)
	case 256:
		return "."
	}
	return "[" + runs(c) + "]"
}

// runs are the runs of bytes that are in c, rising.
func runs(c api.Class) string {
	var text strings.Builder
	for lo, ok := class.Least(c); ok; lo, ok = class.Least(c) {
		hi := end(c, lo)
		text.WriteString(run(lo, hi))
		c = class.And(c, class.Not(class.Range(lo, hi)))
	}
	return text.String()
}

// end is the last byte of the run of c that begins with lo.
func end(c api.Class, lo byte) byte {
	hi := lo
	for hi < 255 && class.Has(c, hi+1) {
		hi++
	}
	return hi
}

// run is what the bytes from lo to hi are written as between [ and ].
func run(lo, hi byte) string {
	switch hi - lo {
	case 0:
		return Byte(lo)
	case 1:
		return Byte(lo) + Byte(hi)
	}
	return Byte(lo) + "-" + Byte(hi)
}
