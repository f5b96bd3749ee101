package person_test

import (
	"slices"
	"testing"

	"mortsafe/api"
	"mortsafe/person"
)

// decisionTests are decisions on 4 entries, and their errors.
var decisionTests = []struct {
	what string
	l    []api.Decision
	want api.Errno
}{
	{"nothing", nil, api.OK},
	{"the chapter's example 5", triangle(), api.OK},
	{"its withdrawal", with(triangle(), withdraw(1)), api.OK},
	{"all withdrawn", with(triangle(), withdraw(2), withdraw(0), withdraw(1)), api.OK},
	{"decided again", decisions(same(0, 1), withdraw(0), same(0, 1), withdraw(2)), api.OK},
	{"the same twice", decisions(same(0, 1), same(0, 1), same(1, 0)), api.OK},
	{"same and different", decisions(same(0, 1), different(0, 1)), api.OK},
	{"the last entry", decisions(same(3, 0), different(0, 3)), api.OK},

	{"no kind", decisions(api.Decision{Kind: 3, A: 0, B: 1}), api.ErrKind},
	{"a negative kind", decisions(api.Decision{Kind: -1, A: 0, B: 1}), api.ErrKind},
	{"no kind, no entries", decisions(api.Decision{Kind: 3, A: 9, B: 9}), api.ErrKind},

	{"same of a missing A", decisions(same(4, 0)), api.ErrMissing},
	{"same of a missing B", decisions(same(0, 4)), api.ErrMissing},
	{"same of a negative A", decisions(same(-1, 0)), api.ErrMissing},
	{"same of a negative B", decisions(same(0, -1)), api.ErrMissing},
	{"different of a missing A", decisions(different(4, 0)), api.ErrMissing},
	{"different of a missing B", decisions(different(0, 4)), api.ErrMissing},
	{"different of a negative A", decisions(different(-1, 0)), api.ErrMissing},
	{"different of a negative B", decisions(different(0, -1)), api.ErrMissing},
	{"equal, and missing", decisions(same(4, 4)), api.ErrMissing},
	{"same as itself", decisions(same(3, 3)), api.ErrForm},
	{"different from itself", decisions(different(0, 0)), api.ErrForm},

	{"a withdrawal of nothing", decisions(withdraw(0)), api.ErrMissing},
	{"of itself", decisions(same(0, 1), withdraw(1)), api.ErrMissing},
	{"of a later one", decisions(same(0, 1), withdraw(2), same(0, 1)), api.ErrMissing},
	{"of a negative one", decisions(same(0, 1), withdraw(-1)), api.ErrMissing},
	{"with a B", decisions(same(0, 1), api.Decision{Kind: 2, A: 0, B: 1}), api.ErrForm},
	{"with a negative B", decisions(same(0, 1), api.Decision{Kind: 2, A: 0, B: -1}), api.ErrForm},
	{"of a missing one, with a B", decisions(same(0, 1), api.Decision{Kind: 2, A: 1, B: 1}), api.ErrMissing},
	{"of a withdrawal", decisions(same(0, 1), withdraw(0), withdraw(1)), api.ErrKind},
	{"of a withdrawal, with a B", decisions(same(0, 1), withdraw(0), api.Decision{Kind: 2, A: 1, B: 1}), api.ErrForm},
	{"twice", decisions(same(0, 1), withdraw(0), withdraw(0)), api.ErrState},
	{"twice, with others between", with(triangle(), withdraw(2), same(0, 3), withdraw(1), withdraw(2)), api.ErrState},
	{"twice, with a B", decisions(same(0, 1), withdraw(0), api.Decision{Kind: 2, A: 0, B: 1}), api.ErrForm},

	{"the first wrong one decides", decisions(same(0, 0), same(0, 4)), api.ErrForm},
	{"the first wrong one decides here, too", decisions(same(0, 4), same(0, 0)), api.ErrMissing},
}

// P4.5: CheckDecisions tells the errors of a decision in their order.
func TestCheckDecisions(t *testing.T) {
	for _, x := range decisionTests {
		if e := person.CheckDecisions(4, x.l); e != x.want {
			t.Error(x.what, e)
		}
		if e := person.CheckDecisions(4, with(x.l, same(9, 9))); x.want != api.OK && e != x.want || x.want == api.OK && e != api.ErrMissing {
			t.Error(x.what, "before a wrong one", e)
		}
	}
	for _, n := range extremes {
		for _, d := range decisions(same(n, 0), same(0, n), different(n, 0), different(0, n), withdraw(n)) {
			if e := person.CheckDecisions(4, with(triangle(), d)); e != api.ErrMissing {
				t.Error(d, e)
			}
		}
		if e := person.CheckDecisions(4, decisions(same(0, 1), api.Decision{Kind: n})); e != api.ErrKind {
			t.Error(n, e)
		}
		if e := person.CheckDecisions(4, decisions(same(0, 1), api.Decision{Kind: 2, B: n})); e != api.ErrForm {
			t.Error(n, e)
		}
	}
}

// P4.5: there are 0 to 60 entries and up to 120 decisions; on no entries there are none.
func TestLimitsOfDecisions(t *testing.T) {
	most := repeat(api.MaxDecisions, func(i int) api.Decision { return same(i%60, (i+1)%60) })
	many := with(most, same(0, 1))
	wrong := decisions(same(0, 0))
	tests := []struct {
		what string
		n    int
		l    []api.Decision
		want api.Errno
	}{
		{"no entries", 0, nil, api.OK},
		{"one entry", 1, nil, api.OK},
		{"60 entries", 60, most, api.OK},
		{"a negative number", -1, nil, api.ErrRange},
		{"61 entries", 61, nil, api.ErrRange},
		{"61 entries, wrong decisions", 61, wrong, api.ErrRange},
		{"61 entries, many decisions", 61, many, api.ErrRange},
		{"121 decisions", 60, many, api.ErrLarge},
		{"121 decisions, the first one wrong", 60, with(wrong, most...), api.ErrLarge},
		{"121 decisions on nothing", 0, many, api.ErrLarge},
		{"a decision on no entries", 0, decisions(same(0, 1)), api.ErrMissing},
		{"a withdrawal on no entries", 0, decisions(withdraw(0)), api.ErrMissing},
		{"a decision on one entry", 1, decisions(same(0, 0)), api.ErrForm},
		{"another one on one entry", 1, decisions(different(0, 1)), api.ErrMissing},
		{"the 60th entry of 59", 59, most, api.ErrMissing},
	}
	for _, x := range tests {
		if e := person.CheckDecisions(x.n, x.l); e != x.want {
			t.Error(x.what, e)
		}
	}
	for _, n := range extremes {
		if e := person.CheckDecisions(n, wrong); e != api.ErrRange {
			t.Error(n, e)
		}
	}
}

// wrongDecisions calls all functions with decisions, and tells which of them do not
// return an error, or something else beside it. What else they are given is wrong, too.
func wrongDecisions(n int, l []api.Decision, want api.Errno) []string {
	var bad []string
	check := func(what string, zero bool, e api.Errno) {
		if !zero || e != want {
			bad = append(bad, what)
		}
	}
	check("CheckDecisions", true, person.CheckDecisions(n, l))
	numbers, e := person.Standing(n, l)
	check("Standing", numbers == nil, e)
	classes, e := person.Classes(n, l)
	check("Classes", classes == nil, e)
	numbers, e = person.ClassOf(n, l, -1)
	check("ClassOf", numbers == nil, e)
	numbers, e = person.Why(n, l, [2]int{-1, 99})
	check("Why", numbers == nil, e)
	c, is, e := person.Contradiction(n, l)
	check("Contradiction", c.Same == nil && c.Different == 0 && !is, e)
	check("CheckChain", true, person.CheckChain(n, l, api.Chain{Different: -1}))
	numbers, e = person.Conflicts(n, l)
	check("Conflicts", numbers == nil, e)
	further, e := person.Decide(n, l, api.Decision{Kind: 9})
	check("Decide", further == nil, e)
	return bad
}

// P4.5, P4.6, P4.7: all functions with decisions return their error first.
func TestErrorsOfDecisions(t *testing.T) {
	for _, x := range decisionTests {
		if x.want == api.OK {
			continue
		}
		if bad := wrongDecisions(4, x.l, x.want); bad != nil {
			t.Error(x.what, bad)
		}
	}
	for _, n := range with(extremes, 61) {
		if bad := wrongDecisions(n, triangle(), api.ErrRange); bad != nil {
			t.Error(n, bad)
		}
	}
	if bad := wrongDecisions(4, repeat(121, always(same(0, 1))), api.ErrLarge); bad != nil {
		t.Error(bad)
	}
	if bad := wrongDecisions(4, with(repeat(119, always(same(0, 1))), same(1, 1)), api.ErrForm); bad != nil {
		t.Error(bad)
	}
}

// P4.5: decisions stand that are no withdrawals and are not withdrawn.
func TestStanding(t *testing.T) {
	tests := []struct {
		l    []api.Decision
		want []int
	}{
		{nil, nil},
		{triangle(), []int{0, 1, 2}},
		{with(triangle(), withdraw(1)), []int{0, 2}},
		{with(triangle(), withdraw(1), same(1, 2)), []int{0, 2, 4}},
		{with(triangle(), withdraw(2), withdraw(0)), []int{1}},
		{with(triangle(), withdraw(2), withdraw(0), withdraw(1)), nil},
		{decisions(same(0, 1), withdraw(0), same(0, 1), withdraw(2), different(2, 3)), []int{4}},
	}
	for _, x := range tests {
		if l, e := person.Standing(4, x.l); !slices.Equal(l, x.want) || e != api.OK {
			t.Error(x.l, l, e)
		}
	}
	if l, e := person.Standing(0, nil); len(l) != 0 || e != api.OK {
		t.Error(l, e)
	}
}

// P4.7: Decide puts a decision behind others, if there is no contradiction then.
func TestDecide(t *testing.T) {
	both := decisions(same(0, 1), different(0, 1), same(2, 3), different(3, 2))
	tests := []struct {
		what string
		l    []api.Decision
		d    api.Decision
		want api.Errno
	}{
		{"the first one", nil, same(0, 1), api.OK},
		{"the first one is different", nil, different(3, 0), api.OK},
		{"a further one", decisions(same(0, 1)), same(1, 2), api.OK},
		{"the same again", decisions(same(0, 1)), same(1, 0), api.OK},
		{"different from another one", decisions(same(0, 1)), different(1, 2), api.OK},
		{"different from the same", decisions(same(0, 1)), different(1, 0), api.ErrClash},
		{"same as the different", decisions(different(0, 1)), same(1, 0), api.ErrClash},
		{"by a chain", decisions(same(0, 1), same(1, 2)), different(2, 0), api.ErrClash},
		{"closing a chain", decisions(same(0, 1), different(2, 0)), same(1, 2), api.ErrClash},
		{"behind a contradiction", triangle(), same(0, 3), api.ErrClash},
		{"another contradiction", triangle(), different(0, 1), api.ErrClash},
		{"the withdrawal of the Different one", triangle(), withdraw(2), api.OK},
		{"the withdrawal of a Same one", triangle(), withdraw(0), api.OK},
		{"the withdrawal of one of two contradictions", both, withdraw(1), api.ErrClash},
		{"the withdrawal of the other one", with(both, withdraw(0)), withdraw(3), api.OK},
		{"the withdrawal of a way besides another one", with(triangle(), same(0, 1)), withdraw(0), api.ErrClash},
		{"different behind a withdrawal", decisions(same(0, 1), withdraw(0)), different(0, 1), api.OK},

		{"no kind", triangle(), api.Decision{Kind: 3}, api.ErrKind},
		{"missing", triangle(), same(0, 4), api.ErrMissing},
		{"equal", triangle(), different(1, 1), api.ErrForm},
		{"a withdrawal of itself", triangle(), withdraw(3), api.ErrMissing},
		{"a withdrawal with a B", triangle(), api.Decision{Kind: 2, A: 0, B: 1}, api.ErrForm},
		{"a withdrawal of a withdrawal", with(triangle(), withdraw(0)), withdraw(3), api.ErrKind},
		{"a withdrawal again", with(triangle(), withdraw(0)), withdraw(0), api.ErrState},
	}
	for _, x := range tests {
		l, e := person.Decide(4, x.l, x.d)
		if e != x.want || e != api.OK && l != nil || e == api.OK && !slices.Equal(l, with(x.l, x.d)) {
			t.Error(x.what, l, e)
		}
	}
}

// P4.7: the decisions with another one behind them are at most 120, too.
func TestDecideWithMany(t *testing.T) {
	many := repeat(api.MaxDecisions, func(int) api.Decision { return same(0, 1) })
	if l, e := person.Decide(4, many[:119], same(1, 0)); len(l) != 120 || e != api.OK {
		t.Error(len(l), e)
	}
	for _, d := range decisions(same(1, 0), same(1, 1), different(0, 1), withdraw(0)) {
		if l, e := person.Decide(4, many, d); l != nil || e != api.ErrLarge {
			t.Error(d, l, e)
		}
	}
}
