package cset

import (
	"slices"
	"testing"

	"ostinato/place"
)

// kept is a set of counts that is kept one by one, rising, by what the chapters say of scopes; no other package is asked.
type kept struct {
	scope  place.Scope
	counts []int64
}

func (k *kept) begin() {
	if len(k.counts) == 0 || k.counts[0] != 1 {
		k.counts = append([]int64{1}, k.counts...)
	}
}

func (k *kept) next() {
	var behind []int64
	for _, count := range k.counts {
		switch {
		case k.scope.High == -1:
			behind = append(behind, min(count+1, k.scope.Low))
		case count < k.scope.High:
			behind = append(behind, count+1)
		}
	}
	k.counts = slices.Compact(behind)
}

func (k *kept) merge(l []int64) {
	k.counts = append(slices.Clone(k.counts), l...)
	slices.Sort(k.counts)
	k.counts = slices.Compact(k.counts)
}

// room is by how much all counts may be made more, none of them coming to the last one.
func (k *kept) room() int64 {
	last := max(k.scope.Low, k.scope.High)
	if len(k.counts) == 0 {
		return 0
	}
	return max(0, last-1-k.counts[len(k.counts)-1])
}

func (k *kept) ahead(times int64) {
	k.counts = slices.Clone(k.counts)
	for i := range k.counts {
		k.counts[i] += times
	}
}

// twin is a set, and what it should be.
type twin struct {
	set   *Set
	want  kept
	steps int
}

func newTwin(s place.Scope) *twin {
	return &twin{set: New(s), want: kept{scope: s}}
}

// right tells whether a set is what it should be, and has taken at most so many steps since it was asked last.
func (w *twin) right(most int) bool {
	l, took := w.set.Counts(), w.set.Steps()-w.steps
	w.steps += took
	may := w.want.scope.High
	if may == -1 {
		may = w.want.scope.Low
	}
	done := slices.ContainsFunc(w.want.counts, func(count int64) bool { return count >= w.want.scope.Low })
	return slices.Equal(l, w.want.counts) && w.set.Len() == len(l) && w.set.Done() == done && int64(len(l)) <= may && took >= 0 && took <= most
}

// actions are what may be done with two of several sets.
const actions = 6

// act does something with a set and another one, which may be the same, and tells how many steps it may take.
func act(action int, x, y *twin) int {
	switch action {
	case 0:
		x.set.Begin()
		x.want.begin()
		return 2
	case 1:
		x.set.Next()
		x.want.next()
		return 2
	case 2:
		most := 2 + 2*(x.set.Len()+y.set.Len())
		x.set.Merge(y.set)
		x.want.merge(y.want.counts)
		return most
	case 3:
		*x = twin{set: y.set.Clone(), want: y.want, steps: y.set.Steps()}
	case 4:
		x.set.Merge(newTwin(x.want.scope).set)
		return 2 + 2*x.set.Len()
	case 5:
		x.set.Merge(x.set)
		return 2 + 4*x.set.Len()
	}
	return 0
}

// follow does what the digits of a number tell with two sets, and tells whether both are right behind each.
func follow(s place.Scope, digits, times int) bool {
	x, y := newTwin(s), newTwin(s)
	for range times {
		most := act(digits%actions, x, y)
		digits /= actions
		if !x.right(most) || !y.right(0) {
			return false
		}
		if digits%2 == 1 {
			x, y = y, x
		}
		digits /= 2
	}
	return true
}

// P9.1 to P9.3: all that may be done with two sets, five times.
func TestAll(t *testing.T) {
	const times, all = 5, 12 * 12 * 12 * 12 * 12
	for _, s := range []place.Scope{{Low: 1, High: 2}, {Low: 2, High: 3}, {Low: 2, High: -1}, {Low: 3, High: -1}, {Low: 1 << 30, High: bound}} {
		for digits := range all {
			if !follow(s, digits, times) {
				t.Fatalf("%v: %d", s, digits)
			}
		}
	}
}

// mixed are numbers in no order that is to be seen, the same ones in each run.
func mixed() func(below int) int {
	state := uint64(1)
	return func(below int) int {
		state = state*6364136223846793005 + 1442695040888963407
		return int((state >> 33) % uint64(below))
	}
}

// many does so much with four sets of a scope, most often Begin and Next, so that counts come to many. Of great bounds the counts go ahead now and then, so that they come to the end.
func mpick(t *testing.T, s place.Scope, times int) {
	pick := mixed()
	var l []*twin
	for range 4 {
		l = append(l, newTwin(s))
	}
	for range times {
		x, y := l[pick(4)], l[pick(4)]
		action := pick(40)
		if action >= actions {
			action %= 2
		}
		most := act(action, x, y)
		if room := x.want.room(); room > 0 && pick(50) == 0 {
			by := room - int64(pick(int(min(room, 10))))
			ahead(x.set, by)
			x.want.ahead(by)
		}
		if !x.right(most) {
			t.Fatalf("%v: %v, not %v", s, x.set.Counts(), x.want.counts)
		}
		for _, z := range l {
			if z != x && !z.right(0) {
				t.Fatalf("%v: %v, not %v any more", s, z.set.Counts(), z.want.counts)
			}
		}
	}
}

// P9.1 to P9.3: of bounds of any size, a great deal.
func TestMpick(t *testing.T) {
	for _, high := range []int64{2, 3, 4, 5, 8, 13, 60, 1000, bound - 1, bound} {
		for _, low := range []int64{1, 2, high / 2, high - 1, high} {
			mpick(t, place.Scope{Low: max(1, low), High: high}, 4000)
		}
		mpick(t, place.Scope{Low: high, High: -1}, 10000)
	}
}
