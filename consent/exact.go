package consent

import (
	"slices"

	"mortsafe/api"
)

// set is people of a rule: a bit for each of them, in their order.
type set int

func (s set) has(person int) bool { return s&(1<<person) != 0 }

func (s set) with(person int) set { return s | 1<<person }

func (s set) without(person int) set { return s &^ (1 << person) }

// question is a rule of few people, and of each set of them whether it is enough.
type question struct {
	people []string
	enough []bool
}

// ask returns the question of a rule.
func ask(r api.Rule) (question, api.Errno) {
	l, e := askAll(r)
	if e != api.OK {
		return question{}, e
	}
	return l[0], api.OK
}

// askAll returns the questions of some rules. The errors of all rules come before the one
// for too many people.
func askAll(rules ...api.Rule) ([]question, api.Errno) {
	large := false
	for _, r := range rules {
		if e := CheckRule(r); e != api.OK {
			return nil, e
		}
		large = large || len(peopleOf(r)) > api.MaxPeople
	}
	if large {
		return nil, api.ErrLarge
	}
	var l []question
	for _, r := range rules {
		l = append(l, newQuestion(r))
	}
	return l, api.OK
}

func newQuestion(r api.Rule) question {
	q := question{people: peopleOf(r).names()}
	numbers := map[string]int{}
	for i, name := range q.people {
		numbers[name] = i
	}
	for s := range q.sets {
		signed := func(name string) bool { return s.has(numbers[name]) }
		q.enough = append(q.enough, isEnough(r, signed))
	}
	return q
}

// everybody is the set of all people; each set is a number from 0 to it.
func (q question) everybody() set { return 1<<len(q.people) - 1 }

// sets yields all sets of people, by their numbers.
func (q question) sets(yield func(set) bool) {
	for s := set(0); s <= q.everybody() && yield(s); s++ {
	}
}

func (q question) isEnough(s set) bool { return q.enough[s] }

func (q question) blocks(s set) bool { return !q.isEnough(q.everybody() &^ s) }

// decides tells whether a set becomes enough by a person.
func (q question) decides(person int, s set) bool {
	return !q.isEnough(s) && q.isEnough(s.with(person))
}

// peopleWho returns the people of whom something holds, ascending.
func (q question) peopleWho(is func(person int) bool) []string {
	var names []string
	for i, name := range q.people {
		if is(i) {
			names = append(names, name)
		}
	}
	return names
}

// smallest returns the sets of which something holds, but of no proper part of them; more
// people never undo it, so that leaving out one person shows it.
func (q question) smallest(is func(set) bool) [][]string {
	var l [][]string
	for s := range q.sets {
		isWithout := func(person int) bool { return s.has(person) && is(s.without(person)) }
		if is(s) && len(q.peopleWho(isWithout)) == 0 {
			l = append(l, q.peopleWho(s.has))
		}
	}
	slices.SortFunc(l, slices.Compare)
	return l
}

// counts returns of how many sets a person decides.
func (q question) counts(person int) int {
	count := 0
	for s := range q.sets {
		if q.decides(person, s) {
			count++
		}
	}
	return count
}

// Smallest returns all smallest sets that are enough.
func Smallest(r api.Rule) ([][]string, api.Errno) {
	q, e := ask(r)
	if e != api.OK {
		return nil, e
	}
	return q.smallest(q.isEnough), api.OK
}

// Refusals returns all smallest sets that block.
func Refusals(r api.Rule) ([][]string, api.Errno) {
	q, e := ask(r)
	if e != api.OK {
		return nil, e
	}
	return q.smallest(q.blocks), api.OK
}

// Indispensable returns the people who block alone, ascending.
func Indispensable(r api.Rule) ([]string, api.Errno) {
	q, e := ask(r)
	if e != api.OK {
		return nil, e
	}
	return q.peopleWho(func(person int) bool { return q.blocks(set(0).with(person)) }), api.OK
}

// Idle returns the people who decide of no set, ascending.
func Idle(r api.Rule) ([]string, api.Errno) {
	q, e := ask(r)
	if e != api.OK {
		return nil, e
	}
	return q.peopleWho(func(person int) bool { return q.counts(person) == 0 }), api.OK
}

// Counts returns how many sets are enough, and of how many each person decides.
func Counts(r api.Rule) (int, []int, api.Errno) {
	q, e := ask(r)
	if e != api.OK {
		return 0, nil, e
	}
	count := 0
	for s := range q.sets {
		if q.isEnough(s) {
			count++
		}
	}
	var counts []int
	for person := range len(q.people) {
		counts = append(counts, q.counts(person))
	}
	return count, counts, api.OK
}

// Implies tells whether each set that is enough for a is enough for b; if not, with the
// first smallest set for a that is not.
func Implies(a, b api.Rule) ([]string, bool, api.Errno) {
	l, e := askAll(a, b)
	if e != api.OK {
		return nil, false, e
	}
	missed, is := implies(l[0], b)
	return missed, is, api.OK
}

// implies needs no question of b: the two rules may have more people than a question can.
func implies(a question, b api.Rule) ([]string, bool) {
	for _, names := range a.smallest(a.isEnough) {
		if !isEnough(b, crowdOf(names...).has) {
			return names, false
		}
	}
	return nil, true
}

// Same tells whether the same sets are enough for both rules.
func Same(a, b api.Rule) (bool, api.Errno) {
	l, e := askAll(a, b)
	if e != api.OK {
		return false, e
	}
	_, forth := implies(l[0], b)
	_, back := implies(l[1], a)
	return forth && back, api.OK
}
