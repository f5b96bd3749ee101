package person_test

import (
	"slices"
	"testing"

	"mortsafe/api"
	"mortsafe/person"
)

// P4.6: the classes ascend, and are ordered by their first entries.
func TestClasses(t *testing.T) {
	tests := []struct {
		n    int
		l    []api.Decision
		want [][]int
	}{
		{0, nil, nil},
		{1, nil, [][]int{{0}}},
		{3, nil, [][]int{{0}, {1}, {2}}},
		{4, triangle(), [][]int{{0, 1, 2}, {3}}},
		{4, with(triangle(), withdraw(1)), [][]int{{0, 1}, {2}, {3}}},
		{4, with(triangle(), withdraw(0)), [][]int{{0}, {1, 2}, {3}}},
		{4, with(triangle(), withdraw(2)), [][]int{{0, 1, 2}, {3}}},
		{4, decisions(different(0, 1)), [][]int{{0}, {1}, {2}, {3}}},
		{4, decisions(same(3, 0), same(2, 1)), [][]int{{0, 3}, {1, 2}}},
		{5, decisions(same(4, 2), same(3, 1), same(2, 0)), [][]int{{0, 2, 4}, {1, 3}}},
		{5, decisions(same(4, 3), same(3, 2), same(2, 1), same(1, 0)), [][]int{{0, 1, 2, 3, 4}}},
		{5, decisions(same(1, 4), same(3, 4), same(1, 4)), [][]int{{0}, {1, 3, 4}, {2}}},
		{4, decisions(same(0, 1), same(0, 1), withdraw(0)), [][]int{{0, 1}, {2}, {3}}},
		{4, decisions(same(0, 1), withdraw(0), same(1, 0)), [][]int{{0, 1}, {2}, {3}}},
	}
	for _, x := range tests {
		classes, e := person.Classes(x.n, x.l)
		if !equalLists(classes, x.want) || e != api.OK {
			t.Error(x.l, classes, e)
		}
		for _, class := range x.want {
			for _, i := range class {
				if l, e := person.ClassOf(x.n, x.l, i); !slices.Equal(l, class) || e != api.OK {
					t.Error(x.l, i, l, e)
				}
			}
		}
		for _, i := range with(extremes, x.n) {
			if l, e := person.ClassOf(x.n, x.l, i); l != nil || e != api.ErrMissing {
				t.Error(x.l, i, l, e)
			}
		}
	}
}

// P4.6: Why is a shortest chain, from the first entry of the pair to the second one.
func TestWhy(t *testing.T) {
	ring := decisions(same(0, 1), same(2, 1), same(2, 3), same(4, 3), same(4, 0), different(0, 2))
	tests := []struct {
		what string
		n    int
		l    []api.Decision
		pair [2]int
		want []int
	}{
		{"equal", 4, triangle(), [2]int{1, 1}, nil},
		{"equal, alone", 4, triangle(), [2]int{3, 3}, nil},
		{"equal, without decisions", 1, nil, [2]int{0, 0}, nil},
		{"one decision", 4, triangle(), [2]int{0, 1}, []int{0}},
		{"backwards", 4, triangle(), [2]int{1, 0}, []int{0}},
		{"two", 4, triangle(), [2]int{0, 2}, []int{0, 1}},
		{"two backwards", 4, triangle(), [2]int{2, 0}, []int{1, 0}},
		{"the shorter way round", 5, ring, [2]int{0, 3}, []int{4, 3}},
		{"the shorter way round the other side", 5, ring, [2]int{0, 2}, []int{0, 1}},
		{"back", 5, ring, [2]int{3, 0}, []int{3, 4}},
		{"the longer way round, once the shorter one is withdrawn", 5, with(ring, withdraw(4)), [2]int{0, 3}, []int{0, 1, 2}},
		{"a short cut behind a long way", 5, decisions(same(0, 1), same(1, 2), same(2, 3), same(3, 4), same(4, 0)), [2]int{0, 4}, []int{4}},
		{"a withdrawn short cut", 5, decisions(same(0, 2), same(0, 1), same(1, 2), withdraw(0)), [2]int{0, 2}, []int{1, 2}},
	}
	for _, x := range tests {
		if l, e := person.Why(x.n, x.l, x.pair); !slices.Equal(l, x.want) || e != api.OK {
			t.Error(x.what, l, e)
		}
	}
}

// P4.6: no chain leads into another class, or to what is no entry.
func TestErrorsOfWhy(t *testing.T) {
	tests := []struct {
		what string
		l    []api.Decision
		pair [2]int
		want api.Errno
	}{
		{"other classes", triangle(), [2]int{0, 3}, api.ErrNone},
		{"other classes backwards", triangle(), [2]int{3, 2}, api.ErrNone},
		{"a withdrawn link", with(triangle(), withdraw(1)), [2]int{0, 2}, api.ErrNone},
		{"different is no link", decisions(different(0, 1)), [2]int{0, 1}, api.ErrNone},
		{"no first entry", triangle(), [2]int{4, 0}, api.ErrMissing},
		{"no second entry", triangle(), [2]int{0, 4}, api.ErrMissing},
		{"a negative first entry", triangle(), [2]int{-1, 0}, api.ErrMissing},
		{"a negative second entry", triangle(), [2]int{3, -1}, api.ErrMissing},
		{"equal, and missing", triangle(), [2]int{4, 4}, api.ErrMissing},
	}
	for _, x := range tests {
		if l, e := person.Why(4, x.l, x.pair); l != nil || e != x.want {
			t.Error(x.what, l, e)
		}
	}
	for _, n := range extremes {
		for _, pair := range [][2]int{{n, 0}, {0, n}, {n, n}} {
			if l, e := person.Why(4, triangle(), pair); l != nil || e != api.ErrMissing {
				t.Error(pair, l, e)
			}
		}
	}
	if l, e := person.Why(0, nil, [2]int{0, 0}); l != nil || e != api.ErrMissing {
		t.Error(l, e)
	}
}

// several has two contradictions: the decision 3 with a chain of two, the decision 6 with one of one,
// and the decision 4, which contradicts nothing.
func several() []api.Decision {
	return decisions(same(0, 1), same(1, 2), same(4, 5), different(2, 0), different(0, 5), same(5, 3), different(4, 5), same(3, 4))
}

// P4.7: Conflicts are the standing Different decisions within a class, and Contradiction
// is one of them with a shortest chain.
func TestConflicts(t *testing.T) {
	tests := []struct {
		what      string
		n         int
		l         []api.Decision
		conflicts []int
		want      api.Chain
	}{
		{"nothing", 0, nil, nil, api.Chain{}},
		{"no decisions", 4, nil, nil, api.Chain{}},
		{"different alone", 4, decisions(different(0, 1)), nil, api.Chain{}},
		{"the chapter's example 5", 4, triangle(), []int{2}, api.Chain{Same: []int{0, 1}, Different: 2}},
		{"behind its withdrawal", 4, with(triangle(), withdraw(1)), nil, api.Chain{}},
		{"behind that of the Different one", 4, with(triangle(), withdraw(2)), nil, api.Chain{}},
		{"from B to A", 4, decisions(same(0, 1), same(1, 2), different(2, 0)), []int{2}, api.Chain{Same: []int{1, 0}, Different: 2}},
		{"before the Same ones", 4, decisions(different(1, 0), same(0, 1)), []int{0}, api.Chain{Same: []int{1}}},
		{"several", 6, several(), []int{3, 6}, api.Chain{Same: []int{2}, Different: 6}},
		{"the shorter one is withdrawn", 6, with(several(), withdraw(6)), []int{3}, api.Chain{Same: []int{1, 0}, Different: 3}},
		{"its chain is withdrawn, another one is left", 6, with(several(), withdraw(2), withdraw(3)), []int{6}, api.Chain{Same: []int{7, 5}, Different: 6}},
		{"the shorter one comes first", 6, decisions(same(0, 1), different(0, 1), same(1, 2), different(0, 2)), []int{1, 3}, api.Chain{Same: []int{0}, Different: 1}},
		{"all are withdrawn", 6, with(several(), withdraw(3), withdraw(6)), nil, api.Chain{}},
	}
	for _, x := range tests {
		if l, e := person.Conflicts(x.n, x.l); !slices.Equal(l, x.conflicts) || e != api.OK {
			t.Error(x.what, l, e)
		}
		c, is, e := person.Contradiction(x.n, x.l)
		if !slices.Equal(c.Same, x.want.Same) || c.Different != x.want.Different || is != (x.conflicts != nil) || e != api.OK {
			t.Error(x.what, c, is, e)
		}
		if is && person.CheckChain(x.n, x.l, c) != api.OK {
			t.Error(x.what, c)
		}
	}
}

// P4.7: CheckChain looks at all numbers, then at all kinds, then whether all stand, then
// at the chain.
func TestCheckChain(t *testing.T) {
	// 0 same, 1 same, 2 different, 3 withdrawn same, 4 withdrawn different, 7 same apart
	l := decisions(same(0, 1), same(1, 2), different(0, 2), same(0, 2), different(2, 0), withdraw(3), withdraw(4), same(3, 4), different(2, 3))
	chain := func(different int, same ...int) api.Chain { return api.Chain{Same: same, Different: different} }
	tests := []struct {
		what string
		c    api.Chain
		want api.Errno
	}{
		{"a contradiction", chain(2, 0, 1), api.OK},
		{"through an entry several times", chain(2, 0, 0, 0, 1), api.OK},
		{"beyond the end and back", chain(2, 0, 1, 1, 1), api.OK},
		{"round about", chain(2, 0, 1, 1, 0, 0, 1), api.OK},

		{"another order", chain(2, 1, 0), api.ErrProof},
		{"the beginning alone", chain(2, 0), api.ErrProof},
		{"the end alone", chain(2, 1), api.ErrProof},
		{"nothing", chain(2), api.ErrProof},
		{"back again", chain(2, 0, 0), api.ErrProof},
		{"beyond the end", chain(2, 0, 1, 1), api.ErrProof},
		{"with another one before it", chain(2, 7, 0, 1), api.ErrProof},
		{"with another one behind it", chain(2, 0, 1, 7), api.ErrProof},
		{"with another one between", chain(2, 0, 7, 1), api.ErrProof},
		{"another Different one", chain(8, 0, 1), api.ErrProof},
		{"another Different one that is not reached", chain(8, 1, 7), api.ErrProof},

		{"no Different one", chain(9, 0, 1), api.ErrMissing},
		{"a negative one", chain(-1, 0, 1), api.ErrMissing},
		{"no Same one", chain(2, 0, 9), api.ErrMissing},
		{"a negative Same one", chain(2, -1, 1), api.ErrMissing},
		{"the first Same one is missing", chain(2, 9, 1), api.ErrMissing},

		{"Different is Same", chain(0, 0, 1), api.ErrKind},
		{"Different is a withdrawal", chain(5, 0, 1), api.ErrKind},
		{"Same is Different", chain(2, 0, 2), api.ErrKind},
		{"Same is a withdrawal", chain(2, 5, 1), api.ErrKind},
		{"the last Same one is a withdrawal", chain(2, 0, 1, 6), api.ErrKind},

		{"Different is withdrawn", chain(4, 0, 1), api.ErrState},
		{"Same is withdrawn", chain(2, 3), api.ErrState},
		{"the last Same one is withdrawn", chain(2, 0, 1, 3), api.ErrState},
		{"both are withdrawn", chain(4, 3), api.ErrState},

		{"numbers before kinds", chain(0, 5, 9), api.ErrMissing},
		{"numbers before states", chain(4, 3, 9), api.ErrMissing},
		{"numbers of Different before kinds of Same", chain(9, 2), api.ErrMissing},
		{"kinds before states", chain(4, 3, 5), api.ErrKind},
		{"kinds of Different before states", chain(7, 3), api.ErrKind},
		{"kinds before the chain", chain(2, 7, 2), api.ErrKind},
		{"states before the chain", chain(2, 7, 3), api.ErrState},
		{"states of Different before the chain", chain(4, 7), api.ErrState},
	}
	for _, x := range tests {
		if e := person.CheckChain(5, l, x.c); e != x.want {
			t.Error(x.what, e)
		}
	}
	for _, n := range extremes {
		for _, c := range []api.Chain{chain(n, 0, 1), chain(2, n), chain(2, 0, 1, n), chain(0, n)} {
			if e := person.CheckChain(5, l, c); e != api.ErrMissing {
				t.Error(c, e)
			}
		}
	}
	if e := person.CheckChain(0, nil, api.Chain{}); e != api.ErrMissing {
		t.Error(e)
	}
}
