package consent_test

import (
	"slices"
	"strings"
	"testing"

	"mortsafe/api"
	"mortsafe/consent"
)

// many is a rule of a kind with some people, and so with one node more.
func many(kind, people int) api.Rule {
	r := api.Rule{Kind: kind, Parts: repeat(people, always(person("a")))}
	if kind == api.RuleSum {
		r.Weights = repeat(people, always(1))
	}
	return r
}

// deep is a chain of nodes with a person as the last one.
func deep(nodes int) api.Rule {
	r := person("a")
	for range nodes - 1 {
		r = anyOf(r)
	}
	return r
}

// P6.1: what is right.
func TestRightRules(t *testing.T) {
	rules := []api.Rule{
		abc(), needless(), never(), sumOf(0, nil), sumOf(50000, nil), sumOf(3, []int{1, 1000}, person("a"), needless()),
		{Kind: api.RuleAll, Weights: []int{}, Parts: []api.Rule{}}, {Person: "a", Weights: []int{}, Parts: []api.Rule{}},
		sumOf(1, []int{1}, sumOf(2, []int{2}, sumOf(3, []int{3}, allOf(never())))),
		allOf(person("a"), person("a"), person("a")),
		many(api.RuleAll, 39), many(api.RuleAny, 39), many(api.RuleSum, 39), deep(40),
		allOf(many(api.RuleAny, 18), many(api.RuleSum, 19)),
	}
	for _, r := range rules {
		if e := consent.CheckRule(r); e != api.OK {
			t.Error(r, e)
		}
	}
	for _, name := range rightNames {
		if e := consent.CheckRule(person(name)); e != api.OK {
			t.Error(name, e)
		}
	}
}

// wrongRule is a rule with its error.
type wrongRule struct {
	r api.Rule
	e api.Errno
}

// wrongNodes are nodes with an error of their own, some of them with several ones.
func wrongNodes() []wrongRule {
	a, one := persons("a"), []int{1}
	l := []wrongRule{
		{api.Rule{Kind: -1}, api.ErrKind},
		{api.Rule{Kind: 4}, api.ErrKind},
		{api.Rule{Kind: 4, Person: "1", Need: -1, Weights: []int{0}}, api.ErrKind},
		{api.Rule{Kind: 4, Parts: persons("1")}, api.ErrKind},
		{api.Rule{}, api.ErrName},
		{api.Rule{Person: "1", Need: 1}, api.ErrName},
		{api.Rule{Weights: []int{0}, Parts: a}, api.ErrName},
		{api.Rule{Person: "a", Need: 1}, api.ErrForm},
		{api.Rule{Person: "a", Need: -1}, api.ErrForm},
		{api.Rule{Person: "a", Weights: one}, api.ErrForm},
		{api.Rule{Person: "a", Parts: a}, api.ErrForm},
		{api.Rule{Person: "a", Weights: one, Parts: a}, api.ErrForm},
		{sumOf(-1, []int{1, 1}, a...), api.ErrShape},
		{sumOf(1, nil, a...), api.ErrShape},
		{sumOf(1, one), api.ErrShape},
		{sumOf(50001, []int{0}), api.ErrShape},
		{sumOf(1, []int{1, 1}, a...), api.ErrShape},
		{sumOf(1, []int{0}, a...), api.ErrRange},
		{sumOf(1, []int{1001}, a...), api.ErrRange},
		{sumOf(1, []int{1, 1, 1001}, persons("a b c")...), api.ErrRange},
		{sumOf(-1, one, a...), api.ErrRange},
		{sumOf(50001, one, a...), api.ErrRange},
		{sumOf(50001, nil), api.ErrRange},
	}
	for _, kind := range []int{api.RuleAll, api.RuleAny} {
		l = append(l,
			wrongRule{api.Rule{Kind: kind, Person: "a", Parts: a}, api.ErrForm},
			wrongRule{api.Rule{Kind: kind, Person: "1"}, api.ErrForm},
			wrongRule{api.Rule{Kind: kind, Need: 1, Parts: a}, api.ErrForm},
			wrongRule{api.Rule{Kind: kind, Need: -1}, api.ErrForm},
			wrongRule{api.Rule{Kind: kind, Weights: one, Parts: a}, api.ErrForm},
			wrongRule{api.Rule{Kind: kind, Weights: one}, api.ErrForm},
		)
	}
	for _, name := range []string{"a", "1"} {
		l = append(l,
			wrongRule{api.Rule{Kind: api.RuleSum, Person: name, Need: 1, Weights: one, Parts: a}, api.ErrForm},
			wrongRule{api.Rule{Kind: api.RuleSum, Person: name, Need: -1, Weights: []int{0, 0}, Parts: a}, api.ErrForm},
		)
	}
	for _, name := range wrongNames {
		l = append(l, wrongRule{person(name), api.ErrName})
	}
	for _, n := range extremes {
		l = append(l,
			wrongRule{api.Rule{Kind: n}, api.ErrKind},
			wrongRule{sumOf(n, one, a...), api.ErrRange},
			wrongRule{sumOf(1, []int{n}, a...), api.ErrRange},
		)
	}
	return l
}

// P6.1: each error of a node, in their order, also of a part.
func TestWrongRules(t *testing.T) {
	for _, x := range wrongNodes() {
		for _, r := range []api.Rule{x.r, allOf(x.r), anyOf(person("a"), allOf(never(), x.r), person("1")), sumOf(1, []int{1}, x.r)} {
			if e := consent.CheckRule(r); e != x.e {
				t.Errorf("%v: %d, not %d", r, e, x.e)
			}
		}
	}
}

// P6.1: a node is looked at before its parts, the parts in their order, and each with all
// nodes below it.
func TestFirstNodeDecides(t *testing.T) {
	wrong := wrongNodes()
	for _, x := range wrong {
		for _, y := range wrong {
			later := anyOf(y.r, person("1"), api.Rule{Kind: 7})
			for _, r := range []api.Rule{anyOf(x.r, later), anyOf(allOf(person("b"), allOf(x.r)), later), sumOf(0, []int{1, 1}, x.r, y.r)} {
				if e := consent.CheckRule(r); e != x.e {
					t.Fatalf("%v: %d, not %d", r, e, x.e)
				}
			}
		}
		above := sumOf(1, []int{1001}, x.r)
		if e := consent.CheckRule(above); e != api.ErrRange {
			t.Errorf("%v: %d", above, e)
		}
	}
	above := api.Rule{Kind: api.RuleAny, Need: 1, Parts: persons("1")}
	if e := consent.CheckRule(above); e != api.ErrForm {
		t.Error(above, e)
	}
}

// endless is a tree whose parts contain themselves.
func endless() api.Rule {
	parts := make([]api.Rule, 1)
	parts[0] = anyOf(parts...)
	return parts[0]
}

// wide is a tree of few slices that has more nodes than could be counted.
func wide() api.Rule {
	r := person("a")
	for range 60 {
		r = allOf(r, r, r)
	}
	return r
}

// P6.1: too many nodes come before all other errors.
func TestLargeRules(t *testing.T) {
	large := []api.Rule{
		many(api.RuleAll, 40), many(api.RuleAny, 40), many(api.RuleSum, 40), deep(41), endless(), wide(),
		anyOf(many(api.RuleAny, 19), many(api.RuleAll, 19)),
		{Kind: api.RuleAny, Parts: make([]api.Rule, 1<<20)},
		{Kind: 7, Person: "1", Need: -1, Weights: []int{0}, Parts: make([]api.Rule, 40)},
		{Person: "a", Parts: make([]api.Rule, 40)},
		{Kind: api.RuleSum, Parts: repeat(40, always(person("a")))},
		allOf(api.Rule{Kind: -1}, many(api.RuleAny, 38)),
		deep(60000),
	}
	for i, r := range large {
		if e := consent.CheckRule(r); e != api.ErrLarge {
			t.Error(i, e)
		}
		for _, x := range allAsked() {
			results, e := x.ask(r)
			checkError(t, x.what, results, e, api.ErrLarge)
		}
	}
	wrong := api.Rule{Person: "a", Parts: make([]api.Rule, 39)}
	if e := consent.CheckRule(wrong); e != api.ErrForm {
		t.Error(e)
	}
}

// P6.1 (P1): each function tells the error of a rule.
func TestErrorsOfRules(t *testing.T) {
	for _, x := range allAsked() {
		for _, w := range wrongNodes() {
			for _, r := range []api.Rule{w.r, anyOf(abc(), w.r)} {
				results, e := x.ask(r)
				checkError(t, x.what, results, e, w.e)
			}
		}
		if results, e := x.ask(abc()); e != api.OK {
			t.Error(x.what, results, e)
		}
	}
}

// P6.1: people are told once, ascending.
func TestPeople(t *testing.T) {
	rules := []struct {
		r    api.Rule
		want string
	}{
		{abc(), "a b c"},
		{person("bob"), "bob"},
		{needless(), ""},
		{never(), ""},
		{sumOf(9, nil), ""},
		{allOf(person("c"), anyOf(person("a"), person("c"))), "a c"},
		{sumOf(1, []int{3, 2, 1}, person("z"), allOf(person("y"), never()), anyOf(person("x"), person("y"))), "x y z"},
		{allOf(persons("b a-b a a1 B ab A")...), "A B a a-b a1 ab b"},
		{anyOf(persons("any all of")...), "all any of"},
	}
	for _, x := range rules {
		l, e := consent.People(x.r)
		check(t, "People", l, e, words(x.want))
	}
	names := letters(39)
	backward := slices.Clone(names)
	slices.Reverse(backward)
	l, e := consent.People(allOf(persons(strings.Join(backward, " "))...))
	check(t, "People", l, e, names)
}
