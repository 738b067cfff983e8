package cset

import (
	"math"
	"slices"
	"strings"
	"testing"

	"ostinato/api"
	"ostinato/place"
)

const bound = api.MaxBound

// told takes the steps that a text tells by letters: b begins, n makes the next ones.
func told(c *Set, steps string) *Set {
	for _, step := range steps {
		switch step {
		case 'b':
			c.Begin()
		case 'n':
			c.Next()
		}
	}
	return c
}

// of is a set of a scope, behind the steps of a text.
func of(low, high int64, steps string) *Set {
	return told(New(place.Scope{Low: low, High: high}), steps)
}

// is fails, if a set has other counts, or tells them otherwise.
func is(t *testing.T, name string, c *Set, want ...int64) {
	t.Helper()
	if l := c.Counts(); !slices.Equal(l, want) || c.Len() != len(want) {
		t.Errorf("%s: %v, %d of them, not %v", name, l, c.Len(), want)
	}
}

// ahead makes all counts so many more, as so many Next would: the greatest one must stay below its end. It saves waiting for counts of two thousand millions.
func ahead(c *Set, times int64) {
	c.common += times
}

// P9.1: a set of nothing, of scopes of each kind: it may not be left, and has no next counts.
func TestNothing(t *testing.T) {
	for _, s := range []place.Scope{{Low: 1, High: 2}, {Low: 2, High: 2}, {Low: 2, High: 3}, {Low: 1, High: bound}, {Low: bound, High: bound}, {Low: 2, High: -1}, {Low: bound, High: -1}} {
		for name, c := range map[string]*Set{
			"new": New(s), "next": told(New(s), "nnn"), "clone": New(s).Clone(),
		} {
			is(t, name, c)
			if c.Done() {
				t.Errorf("%s of %v may not be left", name, s)
			}
			is(t, name+", begun", told(c, "b"), 1)
		}
		if New(s).Steps() != 0 {
			t.Errorf("no step is taken yet: %v", s)
		}
	}
}

// P9.1: counts behind steps, and whether one of them may be left.
func TestSteps(t *testing.T) {
	n := strings.Repeat("n", 100)
	for _, c := range []struct {
		low, high int64
		steps     string
		done      bool
		want      []int64
	}{
		// With an end: up to High, whatever Low is; the chapter's example.
		{2, 3, "b", false, []int64{1}}, {2, 3, "bn", true, []int64{2}}, {2, 3, "bnb", true, []int64{1, 2}}, {2, 3, "bnbn", true, []int64{2, 3}}, {2, 3, "bnbnn", true, []int64{3}}, {2, 3, "bnbnnn", false, nil}, {2, 3, "bnbnnnb", false, []int64{1}},
		{1, 2, "b", true, []int64{1}}, {1, 2, "bn", true, []int64{2}}, {1, 2, "bnb", true, []int64{1, 2}}, {1, 2, "bnbn", true, []int64{2}}, {1, 2, "bnn", false, nil}, {2, 2, "b", false, []int64{1}}, {2, 2, "bnb", true, []int64{1, 2}}, {2, 2, "bnbn", true, []int64{2}},
		{3, 5, "bnbnbnbnb", true, []int64{1, 2, 3, 4, 5}}, {3, 5, "bnbnbnbnbn", true, []int64{2, 3, 4, 5}}, {3, 5, "bnbnbnbnbnnnn", true, []int64{5}}, {3, 5, "bnbnbnbnbnnnnn", false, nil}, {3, 5, "bnnbnn", true, []int64{3, 5}}, {3, 5, "bnnbnnn", true, []int64{4}}, {3, 5, "bnnbnnnb", true, []int64{1, 4}}, {5, 5, "bnbnbnb", false, []int64{1, 2, 3, 4}}, {4, 9, "bnn", false, []int64{3}}, {4, 9, "bnnn", true, []int64{4}},
		{1, 100, "b" + n[:99], true, []int64{100}}, {100, 100, "b" + n[:98], false, []int64{99}}, {1, 100, "b" + n, false, nil}, {1, bound, "b" + n + "b", true, []int64{1, 101}}, {101, bound, "b" + n + "b", true, []int64{1, 101}}, {bound, bound, "b" + n + "b", false, []int64{1, 101}},
		// The count 1 is there already.
		{2, 3, "bb", false, []int64{1}}, {2, 3, "bbb", false, []int64{1}}, {2, 3, "bnbb", true, []int64{1, 2}}, {2, 3, "bbnn", true, []int64{3}}, {2, -1, "bb", false, []int64{1}}, {2, -1, "bnnbb", true, []int64{1, 2}}, {bound, bound, "bbnbb", false, []int64{1, 2}},
		// Without an end: up to Low, where the count stays, and what comes there is one.
		{2, -1, "b", false, []int64{1}}, {2, -1, "bn", true, []int64{2}}, {2, -1, "bnn", true, []int64{2}}, {2, -1, "bnb", true, []int64{1, 2}}, {2, -1, "bnbn", true, []int64{2}}, {2, -1, "bnbnb", true, []int64{1, 2}}, {2, -1, "bn" + n, true, []int64{2}}, {2, -1, "bn" + n + "bnb", true, []int64{1, 2}},
		{3, -1, "bnb", false, []int64{1, 2}}, {3, -1, "bnbn", true, []int64{2, 3}}, {3, -1, "bnbnn", true, []int64{3}}, {3, -1, "bnbnbn", true, []int64{2, 3}}, {3, -1, "bnbnbnbnb", true, []int64{1, 2, 3}}, {3, -1, "bnnn", true, []int64{3}}, {3, -1, "bnnnb", true, []int64{1, 3}}, {3, -1, "bnnnbn", true, []int64{2, 3}}, {3, -1, "bnnnbnn", true, []int64{3}}, {5, -1, "bnnbn" + n[:2], true, []int64{4, 5}}, {5, -1, "bnnbn" + n[:3], true, []int64{5}},
		{bound, -1, "b" + n, false, []int64{101}}, {101, -1, "b" + n + "nnbn", true, []int64{2, 101}},
		// Next of nothing is nothing, and leaves what is begun behind it as it is.
		{2, 3, "nnnb", false, []int64{1}}, {2, 3, "nnnbnb", true, []int64{1, 2}}, {2, 3, "bnnnnnnbn", true, []int64{2}}, {3, -1, "nnnbn", false, []int64{2}},
	} {
		set := of(c.low, c.high, c.steps)
		if l := set.Counts(); !slices.Equal(l, c.want) || set.Len() != len(c.want) || set.Done() != c.done {
			t.Errorf("%d to %d, %q: %v, %d of them, may be left: %v, not %v", c.low, c.high, c.steps, l, set.Len(), set.Done(), c.want)
		}
	}
}

// P9.1: counts at the greatest bounds: the last one has no next one, or stays.
func TestGreat(t *testing.T) {
	c := of(bound-1, bound, "bnnb")
	ahead(c, bound-4)
	is(t, "ahead", c, bound-3, bound-1)
	if !c.Done() || of(bound, bound, "bnnb").Done() {
		t.Error("Done")
	}
	is(t, "at its end", told(c, "nb"), 1, bound-2, bound)
	is(t, "beyond its end", told(c, "n"), 2, bound-1)
	is(t, "one more", told(c, "n"), 3, bound)
	is(t, "beyond again", told(c, "n"), 4)
	if c.Done() {
		t.Error("4")
	}

	c = of(bound, -1, "bnbnb")
	ahead(c, bound-4)
	is(t, "ahead", c, bound-3, bound-2, bound-1)
	if c.Done() {
		t.Error("none is at Low")
	}
	is(t, "at Low", told(c, "n"), bound-2, bound-1, bound)
	is(t, "one comes there", told(c, "n"), bound-1, bound)
	is(t, "one begins", told(c, "b"), 1, bound-1, bound)
	is(t, "it stays", told(c, "nnnn"), 5, bound)
	if !c.Done() {
		t.Error("it is at Low")
	}
}

// P9.1: sets of the same scope are put together; the other one stays.
func TestMerge(t *testing.T) {
	for _, c := range []struct {
		low, high int64
		to, from  string
		want      []int64
	}{
		// With nothing, and nothing with something.
		{2, 9, "", "", nil}, {2, 9, "bnb", "", []int64{1, 2}}, {2, 9, "", "bnb", []int64{1, 2}}, {2, 9, "bnb", "bnnnnnnnnn", []int64{1, 2}}, {2, 9, "bnnnnnnnnn", "bnb", []int64{1, 2}}, {2, 9, "nnn", "bn", []int64{2}}, {3, -1, "", "bnnnnb", []int64{1, 3}}, {3, -1, "bnnnnb", "", []int64{1, 3}},
		// Beside each other, between, ahead, behind; what both have is there once.
		{2, 9, "b", "bn", []int64{1, 2}}, {2, 9, "bn", "b", []int64{1, 2}}, {2, 9, "b", "b", []int64{1}}, {2, 9, "bnn", "bnn", []int64{3}}, {2, 9, "bnnbnnb", "bnnbn", []int64{1, 2, 3, 4, 5}}, {2, 9, "bnnbn", "bnnbnnb", []int64{1, 2, 3, 4, 5}}, {2, 9, "bnbnnnnnn", "bnbnb", []int64{1, 2, 3, 7, 8}}, {2, 9, "bnbnb", "bnbnnnnnn", []int64{1, 2, 3, 7, 8}},
		{2, 9, "bnbnb", "bnb", []int64{1, 2, 3}}, {2, 9, "bnb", "bnbnb", []int64{1, 2, 3}}, {2, 9, "bnbnnb", "bnnbnb", []int64{1, 2, 3, 4}}, {2, 9, "bnnbnb", "bnbnnb", []int64{1, 2, 3, 4}}, {2, 3, "bnbnb", "bnbnb", []int64{1, 2, 3}}, {1, 2, "bn", "b", []int64{1, 2}},
		// Whatever steps there were ahead.
		{2, 9, "bnnnnnnnnnnnnbnb", "bnn", []int64{1, 2, 3}}, {2, 9, "bnn", "bnnnnnnnnnnnnbnb", []int64{1, 2, 3}}, {2, 3, "nnnbnbn", "b", []int64{1, 2, 3}},
		// Without an end: what stays is the same.
		{3, -1, "bnn", "bnnnnn", []int64{3}}, {3, -1, "bnnnnn", "bnn", []int64{3}}, {3, -1, "bnnnnn", "bnnnnnnnnnnb", []int64{1, 3}}, {3, -1, "bnnnnnnb", "bnbn", []int64{1, 2, 3}}, {3, -1, "bn", "bnnnbn", []int64{2, 3}}, {3, -1, "b", "bn", []int64{1, 2}}, {bound, -1, "bnnb", "bn", []int64{1, 2, 3}}, {bound, bound, "bnnb", "bn", []int64{1, 2, 3}},
	} {
		to, from := of(c.low, c.high, c.to), of(c.low, c.high, c.from)
		stays, steps := from.Counts(), from.Steps()
		name := c.to + " with " + c.from
		for range 3 {
			to.Merge(from)
			is(t, name, to, c.want...)
			is(t, "what is merged", from, stays...)
		}
		if from.Steps() != steps {
			t.Errorf("%s: it stays, its steps too", name)
		}
		to.Merge(to)
		is(t, name+", with itself", to, c.want...)
		if done := len(c.want) > 0 && c.want[len(c.want)-1] >= c.low; to.Done() != done {
			t.Errorf("%s: may be left: %v", name, !done)
		}
		from.Merge(to)
		is(t, c.from+" with both", from, c.want...)
	}
}

// P9.1: what is merged goes on by itself, and so does what it was merged with: both by their own numbers.
func TestMergedGoOn(t *testing.T) {
	c, d := of(2, 5, "bnn"), of(2, 5, "nnnbnb")
	c.Merge(d)
	is(t, "merged", c, 1, 2, 3)
	is(t, "the other", told(d, "nb"), 1, 2, 3)
	is(t, "merged, behind that", c, 1, 2, 3)
	is(t, "merged, gone on", told(c, "nnn"), 4, 5)
	is(t, "the other, behind that", d, 1, 2, 3)
	d.Merge(c)
	is(t, "merged back", told(d, "n"), 2, 3, 4, 5)
	is(t, "gone on", told(c, "nb"), 1, 5)
	c.Merge(c)
	is(t, "gone on behind itself", told(c, "nb"), 1, 2)

	c, d = of(3, -1, "bnnnnb"), of(3, -1, "bn")
	c.Merge(d)
	is(t, "merged", c, 1, 2, 3)
	is(t, "come to what stays", told(c, "n"), 2, 3)
	is(t, "the other", told(d, "nnnn"), 3)
	c.Merge(d)
	is(t, "both stay", told(c, "nn"), 3)
}

// P9.1, P9.3: what a set of another scope has may be no counts of this one's.
func TestOtherScope(t *testing.T) {
	c := of(2, 3, "bn")
	for _, d := range []*Set{of(2, 9, "bnnnnb"), of(2, -1, "b"), of(3, 3, "bnnb"), of(1, 2, "b")} {
		c.Merge(d)
		is(t, "of another scope", c, 2)
	}
	is(t, "gone on", told(c, "nb"), 1, 3)
}

// P9.1: a clone has the same, and goes on by itself, on both sides.
func TestClone(t *testing.T) {
	for _, high := range []int64{3, -1} {
		c := of(3, high, "bnb")
		d := c.Clone()
		is(t, "the clone", d, 1, 2)
		if d.Steps() != c.Steps() || d.Done() {
			t.Error("the clone", d.Steps(), c.Steps())
		}
		steps := d.Steps()
		is(t, "gone on", told(c, "nbb"), 1, 2, 3)
		is(t, "the clone, behind that", d, 1, 2)
		if d.Steps() != steps || d.Done() || !c.Done() {
			t.Error("the clone's steps", d.Steps(), steps)
		}
		steps = c.Steps()
		is(t, "the clone, gone on", told(d, "nn"), 3)
		if c.Steps() != steps {
			t.Error("steps", c.Steps(), steps)
		}
		is(t, "behind that", c, 1, 2, 3)
		c.Merge(d)
		d.Merge(c)
		is(t, "merged", told(d, "b"), 1, 2, 3)
		e := d.Clone().Clone()
		is(t, "the first", told(d, "nn"), 3)
		is(t, "the clone's clone", told(e, "n"), 2, 3)
	}
}

// P9.1, R5: what is told is the caller's own.
func TestCountsAnew(t *testing.T) {
	c := of(2, 9, "bnbnnb")
	l := c.Counts()
	l[0], l[1], l[2] = 7, 8, 9
	is(t, "written over", c, 1, 3, 4)
	l = append(c.Counts(), 5)
	is(t, "gone on", told(c, "n"), 2, 4, 5)
	if !slices.Equal(l, []int64{1, 3, 4, 5}) {
		t.Error(l)
	}
}

// P9.2: steps of each call, also where there is nothing to be done.
func TestFewSteps(t *testing.T) {
	for _, steps := range []string{"", "b", "bb", "bn", "bnb", "bnnn", "bnbnb", "bnbnbnbn", "nn"} {
		for _, s := range []place.Scope{{Low: 2, High: 3}, {Low: 3, High: -1}, {Low: 1, High: bound}} {
			c, d := told(New(s), steps), of(s.Low, s.High, "bnb")
			both := c.Len() + d.Len()
			for name, call := range map[string]func(){"Begin": c.Begin, "Next": c.Next} {
				before := c.Steps()
				if call(); c.Steps() <= before || c.Steps() > before+2 {
					t.Errorf("%v, %q: %s takes %d", s, steps, name, c.Steps()-before)
				}
			}
			c = told(New(s), steps)
			before := c.Steps()
			if c.Merge(d); c.Steps() <= before || c.Steps() > before+2+2*both {
				t.Errorf("%v, %q: Merge takes %d, of %d counts", s, steps, c.Steps()-before, both)
			}
			before, both = c.Steps(), 2*c.Len()
			if c.Merge(c); c.Steps() <= before || c.Steps() > before+2+2*both {
				t.Errorf("%v, %q: Merge with itself takes %d, of %d counts", s, steps, c.Steps()-before, both)
			}
			before = c.Steps()
			if c.Done(); len(c.Counts()) != c.Len() || c.Clone().Steps() != before || c.Steps() != before {
				t.Errorf("%v, %q: asked, it takes %d", s, steps, c.Steps()-before)
			}
		}
	}
}

// P9.2: of a hundred thousand counts each Next, and each Begin, takes as few steps; one by one these would not be over today.
func TestManyCounts(t *testing.T) {
	const many, times = 100000, 2000000
	for _, s := range []place.Scope{{Low: 5, High: many}, {Low: many, High: -1}, {Low: many, High: bound}} {
		c := New(s)
		for range many {
			c.Next()
			c.Begin()
		}
		if c.Len() != many || c.Counts()[many-1] != many || c.Steps() > 4*many {
			t.Fatal(s, c.Len(), c.Steps())
		}
		d := c.Clone()
		before := c.Steps()
		for range times {
			c.Next()
			if s.High != bound {
				c.Begin()
			}
		}
		if c.Len() != many || c.Steps() > before+4*times {
			t.Error(s, c.Len(), c.Steps()-before)
		}
		before = d.Steps()
		if d.Merge(c); d.Steps() > before+2+4*many {
			t.Error(s, d.Steps()-before)
		}
	}
}

// P9.3: as many counts as there may be, begun by each Next; there are never more.
func TestMostCounts(t *testing.T) {
	for most := int64(2); most <= 40; most++ {
		for _, s := range []place.Scope{{Low: 1, High: most}, {Low: most, High: most}, {Low: most, High: -1}} {
			c := New(s)
			for times := int64(1); times <= 2*most+1; times++ {
				c.Next()
				c.Begin()
				c.Begin()
				if want := min(times, most); c.Len() != int(want) {
					t.Errorf("%v: %d counts behind %d, not %d", s, c.Len(), times, want)
				}
				d := c.Clone()
				d.Next()
				d.Merge(c)
				if want := min(times+1, most); d.Len() != int(want) {
					t.Errorf("%v: %d counts, merged, behind %d, not %d", s, d.Len(), times, want)
				}
			}
		}
	}
}

// R1: scopes that layer 5 doesn't make: each call ends, and tells counts that rise from 1.
func TestNoScopes(t *testing.T) {
	few := []int64{math.MinInt64, -bound, -2, -1, 0, 1, 2, bound + 1, math.MaxInt64}
	for _, low := range few {
		for _, high := range few {
			c := of(low, high, "bnbnbbnnb")
			c.Merge(of(low, high, "bnb"))
			c.Merge(of(high, low, "bnbnbnb"))
			c.Merge(c)
			told(c, "bnb")
			l := c.Counts()
			if len(l) != c.Len() || len(l) == 0 || l[0] != 1 || !slices.IsSorted(l) || len(slices.Compact(l)) != c.Len() || len(c.Clone().Counts()) != c.Len() {
				t.Error(low, high, l, c.Len())
			}
			if c.Done() != (c.Counts()[c.Len()-1] >= low) {
				t.Error(low, high, c.Done())
			}
		}
	}
	is(t, "once, or more often", of(1, -1, "bnbnnb"), 1)
	is(t, "no time, or more often", of(0, -1, "bnbnnb"), 1)
	is(t, "once", of(1, 1, "b"), 1)
	is(t, "once, and again", of(1, 1, "bn"))
	is(t, "a Low above High", of(9, 2, "bnb"), 1, 2)
}
