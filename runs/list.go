package runs

import (
	"ostinato/api"
)

// maxSize is how many bytes a word in runs may have.
const maxSize = 1 << 62

// measured is how many bytes a word in runs has, and whether it is formed; 0, if it isn't. Each run is held against what is left: a sum of runs that are too great could go round.
func measured(l []api.Run) (int64, bool) {
	if len(l) > api.MaxRuns {
		return 0, false
	}
	size := int64(0)
	for i, r := range l {
		if r.Times < 1 || r.Times > maxSize-size || i > 0 && l[i-1].Byte == r.Byte {
			return 0, false
		}
		size += r.Times
	}
	return size, true
}

// list is a formed word in runs, behind which more runs are put.
type list struct {
	runs []api.Run
	size int64
}

// put puts a run that is at least once behind the others, and tells whether they are formed still. Where it meets one of the same byte, both are one.
func (l *list) put(r api.Run) bool {
	if r.Times > maxSize-l.size {
		return false
	}
	l.size += r.Times
	if last := len(l.runs) - 1; last >= 0 && l.runs[last].Byte == r.Byte {
		l.runs[last].Times += r.Times
		return true
	}
	l.runs = append(l.runs, r)
	return len(l.runs) <= api.MaxRuns
}
