package person

import (
	"maps"
	"slices"

	"mortsafe/api"
)

// nowhere is the decision by which the beginning of a search is reached.
const nowhere = -1

// across returns the entry to which a decision leads from one of its two.
func across(d api.Decision, entry int) (int, bool) {
	switch entry {
	case d.A:
		return d.B, true
	case d.B:
		return d.A, true
	}
	return 0, false
}

// ways returns the entries that chains reach from one, each with the last decision of
// a shortest chain to it. Nearer entries are gone through first, so that the first way
// that is found to an entry is a shortest one.
func (b *book) ways(from int) map[int]int {
	ways := map[int]int{from: nowhere}
	reached := []int{from}
	for i := 0; i < len(reached); i++ {
		for number := range b.standing(api.DecideSame) {
			to, leads := across(b.decisions[number], reached[i])
			if !leads {
				continue
			}
			if _, known := ways[to]; !known {
				ways[to] = number
				reached = append(reached, to)
			}
		}
	}
	return ways
}

// chain returns a shortest chain from an entry to another one, and whether there is any.
func (b *book) chain(from, to int) ([]int, bool) {
	ways := b.ways(from)
	if _, is := ways[to]; !is {
		return nil, false
	}
	var chain []int
	for at := to; at != from; {
		number := ways[at]
		chain = append(chain, number)
		at, _ = across(b.decisions[number], at)
	}
	slices.Reverse(chain)
	return chain, true
}

// firsts returns for each entry the first one of its class.
func (b *book) firsts() map[int]int {
	firsts := map[int]int{}
	for entry := range b.entries {
		if _, known := firsts[entry]; known {
			continue
		}
		for other := range b.ways(entry) {
			firsts[other] = entry
		}
	}
	return firsts
}

// conflicts yields the numbers of the standing Different decisions whose entries are in
// one class, ascending.
func (b *book) conflicts(yield func(int) bool) {
	firsts := b.firsts()
	for number := range b.standing(api.DecideDifferent) {
		d := b.decisions[number]
		if firsts[d.A] == firsts[d.B] && !yield(number) {
			return
		}
	}
}

// Classes returns the classes of the entries.
func Classes(n int, l []api.Decision) ([][]int, api.Errno) {
	b, e := read(n, l)
	if e != api.OK {
		return nil, e
	}
	firsts, members := b.firsts(), map[int][]int{}
	for entry := range n {
		members[firsts[entry]] = append(members[firsts[entry]], entry)
	}
	var classes [][]int
	for _, first := range slices.Sorted(maps.Keys(members)) {
		classes = append(classes, members[first])
	}
	return classes, api.OK
}

// ClassOf returns the class of an entry.
func ClassOf(n int, l []api.Decision, entry int) ([]int, api.Errno) {
	b, wrong := read(n, l)
	if e := firstError(wrong, errorIf(!b.hasEntry(entry), api.ErrMissing)); e != api.OK {
		return nil, e
	}
	return slices.Sorted(maps.Keys(b.ways(entry))), api.OK
}

// Why returns a shortest chain from the first entry of a pair to the second one.
func Why(n int, l []api.Decision, pair [2]int) ([]int, api.Errno) {
	b, wrong := read(n, l)
	missing := errorIf(!b.hasEntry(pair[0]) || !b.hasEntry(pair[1]), api.ErrMissing)
	if e := firstError(wrong, missing); e != api.OK {
		return nil, e
	}
	chain, is := b.chain(pair[0], pair[1])
	return chain, errorIf(!is, api.ErrNone)
}

// Conflicts returns the numbers of the standing Different decisions whose entries are
// in one class.
func Conflicts(n int, l []api.Decision) ([]int, api.Errno) {
	b, e := read(n, l)
	if e != api.OK {
		return nil, e
	}
	return slices.Collect(b.conflicts), api.OK
}

// Contradiction returns a contradiction with a shortest chain of all contradictions,
// and whether there is any.
func Contradiction(n int, l []api.Decision) (api.Chain, bool, api.Errno) {
	b, e := read(n, l)
	if e != api.OK {
		return api.Chain{}, false, e
	}
	var shortest api.Chain
	found := false
	for number := range b.conflicts {
		d := b.decisions[number]
		chain, _ := b.chain(d.A, d.B)
		if !found || len(chain) < len(shortest.Same) {
			shortest, found = api.Chain{Same: chain, Different: number}, true
		}
	}
	return shortest, found, api.OK
}

// CheckChain accepts a contradiction.
func CheckChain(n int, l []api.Decision, c api.Chain) api.Errno {
	b, e := read(n, l)
	if e != api.OK {
		return e
	}
	isMissing := func(number int) bool { return !b.hasDecision(number) }
	isNotSame := func(number int) bool { return l[number].Kind != api.DecideSame }
	hasFallen := func(number int) bool { return !b.stands[number] }
	switch {
	case isMissing(c.Different) || slices.ContainsFunc(c.Same, isMissing):
		return api.ErrMissing
	case l[c.Different].Kind != api.DecideDifferent || slices.ContainsFunc(c.Same, isNotSame):
		return api.ErrKind
	case hasFallen(c.Different) || slices.ContainsFunc(c.Same, hasFallen):
		return api.ErrState
	}
	return errorIf(!leadsAcross(l, c.Same, l[c.Different]), api.ErrProof)
}

// leadsAcross tells whether decisions, one after the other, lead from an entry of a
// Different decision to its other one.
func leadsAcross(l []api.Decision, same []int, different api.Decision) bool {
	at := different.A
	for _, number := range same {
		next, leads := across(l[number], at)
		if !leads {
			return false
		}
		at = next
	}
	return at == different.B
}
