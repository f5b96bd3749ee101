package office

import (
	"cmp"
	"slices"
	"strings"

	"mortsafe/api"
)

// word returns the word that tells what an entry is about.
func (x item) word() string {
	word, _, _ := strings.Cut(x.Text, " ")
	return word
}

func (x item) isFact() bool { return x.word() != withdrawWord }

// turn returns the day by which facts are ordered. By-laws, which may hold backwards, come behind
// all days.
func (x item) turn() int {
	if x.word() == ruleWord {
		return api.MaxDay + 1
	}
	return x.Day
}

// byTurns compares facts.
func byTurns(a, b item) int {
	return cmp.Or(cmp.Compare(a.turn(), b.turn()), cmp.Compare(a.Entered, b.Entered), canonically(a, b))
}

// holdsBy tells whether a fact belongs to a state about a day.
func (x item) holdsBy(day int) bool { return x.word() == ruleWord || x.Day <= day }

// withdrawnOn returns the keys that withdrawals name which are known on a day.
func withdrawnOn(l []item, day int) map[api.Key]bool {
	withdrawn := map[api.Key]bool{}
	for _, x := range l {
		if w, is := x.content.(withdrawal); is && x.Entered <= day {
			withdrawn[w.Key] = true
		}
	}
	return withdrawn
}

// knownOn returns the facts that are known on a day, in their order.
func knownOn(l []item, day int) []item {
	withdrawn := withdrawnOn(l, day)
	var facts []item
	for _, x := range l {
		if x.isFact() && x.Entered <= day && !withdrawn[keyOf(x.Entry)] {
			facts = append(facts, x)
		}
	}
	slices.SortFunc(facts, byTurns)
	return facts
}

// factsAt returns the facts of a state, in their order.
func factsAt(l []item, at [2]int) []item {
	return slices.DeleteFunc(knownOn(l, at[0]), func(x item) bool { return !x.holdsBy(at[1]) })
}

// Withdrawn returns the keys of the facts that are withdrawn on a day, in canonical order.
func Withdrawn(l []api.Entry, day int) ([]api.Key, api.Errno) {
	items, wrong := understandAll(l)
	if e := firstError(wrong, checkDay(day)); e != api.OK {
		return nil, e
	}
	withdrawn := withdrawnOn(items, day)
	var keys []api.Key
	for _, x := range items {
		if k := keyOf(x.Entry); x.isFact() && withdrawn[k] {
			keys = append(keys, k)
		}
	}
	return keys, api.OK
}

// Facts returns the facts that are known on a day, in their order.
func Facts(l []api.Entry, day int) ([]api.Entry, api.Errno) {
	items, wrong := understandAll(l)
	if e := firstError(wrong, checkDay(day)); e != api.OK {
		return nil, e
	}
	return entriesOf(knownOn(items, day)), api.OK
}
