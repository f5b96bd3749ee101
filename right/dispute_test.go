package right_test

import (
	"slices"
	"testing"

	"mortsafe/api"
	"mortsafe/right"
)

// contradictions are records of which all together contradict, and none without one of
// them does.
var contradictions = []struct {
	what string
	l    []api.Record
}{
	{"two deaths", records(died("a", 5), died("a", 6))},
	{"two deaths, the later one first", records(died("a", 6), died("a", 5))},
	{"living behind the death", records(died("a", 5), alive("a", 6))},
	{"living long behind the death", records(alive("a", api.MaxDay), died("a", 0))},
	{"holds behind the death", records(died("a", 5), holds("a", "p", 1, 12, 6))},
	{"holds behind the death, told first", records(holds("a", "p", 1, 12, 6), died("a", 5))},
	{"a grant behind the death", records(died("a", 5), granted("a", "p", 6, 7))},
	{"a grant behind the death, told first", records(granted("a", "p", 6, 7), died("a", 5))},
	{"a child of itself", records(childOf("a", "a"))},
	{"children of each other", records(childOf("a", "b"), childOf("b", "a"))},
	{"a circle of three", records(childOf("a", "b"), childOf("c", "a"), childOf("b", "c"))},
	{"a circle of five", records(childOf("a", "b"), childOf("c", "d"), childOf("e", "a"), childOf("b", "c"), childOf("d", "e"))},
	{"different shares", records(holds("a", "p", 1, 2, 5), holds("a", "p", 1, 3, 5))},
	{"more than 1 of two", records(holds("a", "p", 1, 2, 5), holds("b", "p", 7, 12, 5))},
	{"more than 1 of three", records(holds("a", "p", 1, 2, 5), holds("b", "p", 1, 3, 5), holds("c", "p", 2, 11, 5))},
	{"a little more than 1", records(holds("a", "p", 1, 12, 5), holds("b", "p", 11, 12, 5), holds("c", "p", 1, 12, 5))},
	{"all and a little", records(holds("a", "p", 1, 1, 5), holds("b", "p", 1, 12, 5))},
	{"two grants", records(granted("a", "p", 5, 9), granted("b", "p", 8, 12))},
	{"two grants, the later one first", records(granted("a", "p", 8, 12), granted("b", "p", 5, 9))},
	{"a grant within another", records(granted("a", "p", 5, 9), granted("b", "p", 6, 7))},
	{"a grant around another", records(granted("a", "p", 6, 7), granted("b", "p", 5, 9))},
	{"grants from one day on", records(granted("a", "p", 5, 9), granted("b", "p", 5, 6))},
	{"the same grant to two", records(granted("a", "p", 5, 9), granted("b", "p", 5, 9))},
}

// agreements are records that do not contradict.
var agreements = []struct {
	what string
	l    []api.Record
}{
	{"living on the day of the death", records(died("a", 5), alive("a", 5), alive("a", 4), holds("a", "p", 1, 2, 5), granted("a", "p", 5, 6))},
	{"two deaths on one day", records(died("a", 5), died("a", 5))},
	{"others' deaths", records(died("a", 5), alive("b", 6), died("b", 7), holds("c", "p", 1, 2, 9), granted("c", "p", 9, 10))},
	{"a grant up to a day behind the death", records(died("a", 5), granted("a", "p", 5, 100))},
	{"children of the dead", records(died("a", 0), childOf("b", "a"), died("b", 0), childOf("c", "b"))},
	{"no circle", records(childOf("a", "b"), childOf("b", "c"), childOf("a", "c"), childOf("d", "c"), childOf("d", "a"), childOf("a", "b"))},
	{"many parents", records(childOf("a", "b"), childOf("a", "c"), childOf("a", "d"))},
	{"the same share twice", records(holds("a", "p", 2, 3, 5), holds("a", "p", 2, 3, 5), holds("b", "p", 1, 3, 5), holds("b", "p", 1, 3, 5))},
	{"just 1", records(holds("a", "p", 1, 4, 5), holds("b", "p", 1, 6, 5), holds("c", "p", 7, 12, 5))},
	{"other days", records(holds("a", "p", 1, 2, 5), holds("a", "p", 1, 3, 6), holds("b", "p", 1, 1, 7), holds("c", "p", 1, 1, 8))},
	{"other places", records(holds("a", "p", 1, 2, 5), holds("a", "q", 1, 3, 5), holds("b", "r", 1, 1, 5), holds("c", "s", 1, 1, 5))},
	{"grants one after the other", records(granted("a", "p", 1, 5), granted("b", "p", 5, 9), granted("c", "p", 0, 1))},
	{"grants to one", records(granted("a", "p", 1, 5), granted("a", "p", 1, 5), granted("a", "p", 2, 9))},
	{"grants of other places", records(granted("a", "p", 1, 5), granted("b", "q", 1, 5))},
	{"a grant and shares of others", records(granted("a", "p", 1, 5), holds("b", "p", 1, 1, 3), holds("c", "p", 1, 1, 4))},
	{"a person and a place of one name", records(childOf("p", "a"), holds("a", "p", 1, 1, 5), granted("p", "a", 1, 5), granted("a", "p", 1, 5))},
}

// P5.6: records contradict as the chapter says, and not otherwise.
func TestContradicts(t *testing.T) {
	for _, x := range contradictions {
		if is, e := right.Contradicts(x.l); !is || e != api.OK {
			t.Error(x.what, is, e)
		}
		for i := range x.l {
			if is, e := right.Contradicts(slices.Concat(x.l[:i], x.l[i+1:])); is || e != api.OK {
				t.Error(x.what, "without", i, is, e)
			}
		}
		for _, y := range agreements {
			if is, e := right.Contradicts(with(y.l, x.l...)); !is || e != api.OK {
				t.Error(x.what, y.what, is, e)
			}
		}
	}
	for _, x := range agreements {
		if is, e := right.Contradicts(x.l); is || e != api.OK {
			t.Error(x.what, is, e)
		}
	}
}

// exampleRecords are those of the chapter's example 5.
func exampleRecords() []api.Record {
	return records(died("ann", 5), alive("bob", 9), alive("ann", 7), holds("ann", "a1", 1, 2, 4), holds("bob", "a1", 2, 3, 4))
}

// P5.7: the chapter's example 5.
func TestExampleOfDisputes(t *testing.T) {
	l := exampleRecords()
	if set, e := right.Dispute(l); !slices.Equal(set, []int{3, 4}) || e != api.OK {
		t.Error(set, e)
	}
	if set, e := right.LeastDispute(l); !slices.Equal(set, []int{0, 2}) || e != api.OK {
		t.Error(set, e)
	}
}

// P5.7: Dispute and LeastDispute of records that contradict in several ways.
func TestDisputes(t *testing.T) {
	two, three := records(died("x", 5), died("x", 6)), records(childOf("u", "v"), childOf("v", "w"), childOf("w", "u"))
	rest := records(alive("y", 5), died("y", 5), alive("z", 9))
	tests := []struct {
		what            string
		l               []api.Record
		dispute, fewest []int
	}{
		{"two, then three", slices.Concat(two, three), []int{2, 3, 4}, []int{0, 1}},
		{"three, then two", slices.Concat(three, two), []int{3, 4}, []int{3, 4}},
		{"two, then others", slices.Concat(two, rest), []int{0, 1}, []int{0, 1}},
		{"others between", slices.Concat(two[:1], rest, two[1:]), []int{0, 4}, []int{0, 4}},
		{"the same death twice, and another", records(died("x", 5), died("x", 5), died("x", 6)), []int{1, 2}, []int{0, 2}},
		{"three deaths", records(died("x", 5), died("x", 7), died("x", 6)), []int{1, 2}, []int{0, 1}},
		{"of two the first one lexicographically", records(alive("x", 9), died("y", 1), died("x", 1), alive("y", 9)), []int{1, 3}, []int{0, 2}},
		{"of one alone", records(died("x", 5), died("x", 6), childOf("a", "a"), alive("b", 5)), []int{2}, []int{2}},
		{"of shares", records(holds("a", "p", 1, 2, 5), holds("b", "p", 1, 3, 5), holds("c", "p", 1, 3, 5), holds("d", "p", 2, 3, 5)), []int{1, 2, 3}, []int{0, 3}},
	}
	for _, x := range tests {
		if set, e := right.Dispute(x.l); !slices.Equal(set, x.dispute) || e != api.OK {
			t.Error(x.what, set, e)
		}
		if set, e := right.LeastDispute(x.l); !slices.Equal(set, x.fewest) || e != api.OK {
			t.Error(x.what, set, e)
		}
	}
	for _, x := range contradictions {
		all := repeat(len(x.l), func(i int) int { return i })
		if set, e := right.Dispute(x.l); !slices.Equal(set, all) || e != api.OK {
			t.Error(x.what, set, e)
		}
		if set, e := right.LeastDispute(x.l); !slices.Equal(set, all) || e != api.OK {
			t.Error(x.what, set, e)
		}
		if e := right.CheckDispute(x.l, all); e != api.OK {
			t.Error(x.what, e)
		}
	}
	for _, x := range with(agreements, struct {
		what string
		l    []api.Record
	}{}) {
		if set, e := right.Dispute(x.l); len(set) != 0 || e != api.ErrNone {
			t.Error(x.what, set, e)
		}
		if set, e := right.LeastDispute(x.l); len(set) != 0 || e != api.ErrNone {
			t.Error(x.what, set, e)
		}
	}
}

// P5.7: LeastDispute looks at 12 records at most, also if they do not contradict; Dispute
// at all.
func TestManyDisputes(t *testing.T) {
	living := repeat(11, func(i int) api.Record { return alive("a", i) })
	if set, e := right.LeastDispute(with(living, died("a", 9))); !slices.Equal(set, []int{10, 11}) || e != api.OK {
		t.Error(set, e)
	}
	if set, e := right.LeastDispute(with(living, died("b", 9))); len(set) != 0 || e != api.ErrNone {
		t.Error(set, e)
	}
	for _, last := range records(died("a", 9), died("b", 9)) {
		if set, e := right.LeastDispute(with(living, alive("b", 9), last)); len(set) != 0 || e != api.ErrLarge {
			t.Error(set, e)
		}
	}
	twelve := repeat(12, func(i int) api.Record { return childOf(numbered("a", i), numbered("a", (i+1)%12)) })
	if set, e := right.LeastDispute(twelve); len(set) != 12 || e != api.OK {
		t.Error(set, e)
	}
	forty := repeat(40, func(i int) api.Record { return childOf(numbered("a", i), numbered("a", (i+7)%40)) })
	if set, e := right.Dispute(forty); len(set) != 40 || e != api.OK {
		t.Error(set, e)
	}
	if set, e := right.Dispute(with(forty[:39], died("zoe", 5))); len(set) != 0 || e != api.ErrNone {
		t.Error(set, e)
	}
	shares := repeat(13, func(i int) api.Record { return holds(numbered("a", i), "p", 1, 12, 5) })
	shares = with(shares, repeat(27, func(i int) api.Record { return holds(numbered("b", i), "q", 1, 12, i%3) })...)
	if set, e := right.Dispute(shares); !slices.Equal(set, repeat(13, func(i int) int { return i })) || e != api.OK {
		t.Error(set, e)
	}
}

// P5.7: CheckDispute tells a missing number first, then a wrong order, then that the set is
// no least contradiction.
func TestCheckDispute(t *testing.T) {
	l := exampleRecords()
	tests := []struct {
		set  []int
		want api.Errno
	}{
		{[]int{0, 2}, api.OK}, {[]int{3, 4}, api.OK},
		{nil, api.ErrProof}, {[]int{}, api.ErrProof}, {[]int{0}, api.ErrProof}, {[]int{0, 1}, api.ErrProof}, {[]int{1, 3}, api.ErrProof},
		{[]int{0, 1, 2}, api.ErrProof}, {[]int{0, 2, 3}, api.ErrProof}, {[]int{2, 3, 4}, api.ErrProof}, {[]int{0, 2, 3, 4}, api.ErrProof}, {[]int{0, 1, 2, 3, 4}, api.ErrProof},
		{[]int{5}, api.ErrMissing}, {[]int{-1}, api.ErrMissing}, {[]int{0, 5}, api.ErrMissing}, {[]int{-1, 0, 2}, api.ErrMissing}, {[]int{0, 2, 5}, api.ErrMissing},
		{[]int{2, 0, 5}, api.ErrMissing}, {[]int{0, 0, -1}, api.ErrMissing}, {[]int{4, 3, 2, 1, 0, 5}, api.ErrMissing},
		{[]int{2, 0}, api.ErrOrder}, {[]int{0, 0}, api.ErrOrder}, {[]int{0, 2, 2}, api.ErrOrder}, {[]int{0, 2, 1}, api.ErrOrder}, {[]int{4, 3}, api.ErrOrder}, {[]int{0, 1, 2, 3, 4, 0}, api.ErrOrder},
	}
	for _, x := range tests {
		if e := right.CheckDispute(l, x.set); e != x.want {
			t.Error(x.set, e)
		}
	}
	for _, n := range extremes {
		for _, set := range [][]int{{n}, {0, n}, {n, 0}, {2, 0, n}} {
			if e := right.CheckDispute(l, set); e != api.ErrMissing {
				t.Error(set, e)
			}
		}
	}
	if e := right.CheckDispute(nil, nil); e != api.ErrProof {
		t.Error(e)
	}
	if e := right.CheckDispute(nil, []int{0}); e != api.ErrMissing {
		t.Error(e)
	}
	alone := records(childOf("a", "a"), alive("a", 5))
	for _, x := range []struct {
		set  []int
		want api.Errno
	}{{[]int{0}, api.OK}, {[]int{1}, api.ErrProof}, {[]int{0, 1}, api.ErrProof}} {
		if e := right.CheckDispute(alone, x.set); e != x.want {
			t.Error(x.set, e)
		}
	}
}
