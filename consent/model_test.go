package consent_test

import (
	"math/rand"
	"slices"

	"mortsafe/api"
)

// This file says once more, and in other ways, what the chapter promises; the tests of the
// whole compare it with the package.

// randomRule is a rule with about as many nodes, of so many people.
func randomRule(r *rand.Rand, nodes, people int) api.Rule {
	if nodes <= 1 && r.Intn(8) > 0 {
		return person(string(rune('a' + r.Intn(people))))
	}
	x := api.Rule{Kind: api.RuleAll + r.Intn(3)}
	for left := nodes - 1; left > 0; {
		n := 1 + r.Intn(left)
		x.Parts = append(x.Parts, randomRule(r, n, people))
		left -= n
	}
	if x.Kind == api.RuleSum {
		most := 1
		for range x.Parts {
			weight := 1 + r.Intn(5)
			x.Weights = append(x.Weights, weight)
			most += weight
		}
		x.Need = r.Intn(most + 1)
	}
	return x
}

// modelEnough counts the weights of the parts for which a set is enough.
func modelEnough(r api.Rule, set []string) bool {
	if r.Kind == api.RulePerson {
		return slices.Contains(set, r.Person)
	}
	weight, need := 0, r.Need
	for i, part := range r.Parts {
		if !modelEnough(part, set) {
			continue
		}
		if r.Kind == api.RuleSum {
			weight += r.Weights[i]
		} else {
			weight++
		}
	}
	switch r.Kind {
	case api.RuleAll:
		need = len(r.Parts)
	case api.RuleAny:
		need = 1
	}
	return weight >= need
}

// modelBlocks asks for all people but those of a set.
func modelBlocks(r api.Rule, set []string) bool {
	return !modelEnough(r, less(modelPeople(r), set))
}

// less returns the people who are not in a set.
func less(people, set []string) []string {
	return slices.DeleteFunc(slices.Clone(people), func(name string) bool { return slices.Contains(set, name) })
}

func isPartOf(set, of []string) bool { return len(less(set, of)) == 0 }

func modelPeople(r api.Rule) []string {
	l := []string{}
	if r.Kind == api.RulePerson {
		l = append(l, r.Person)
	}
	for _, part := range r.Parts {
		l = append(l, less(modelPeople(part), l)...)
	}
	slices.Sort(l)
	return l
}

// subsets returns all sets of people, in the order of lists of sets.
func subsets(people []string) [][]string {
	l := [][]string{{}}
	for _, name := range people {
		for _, set := range l {
			l = append(l, with(set, name))
		}
	}
	slices.SortFunc(l, slices.Compare)
	return l
}

// modelSmallest compares all sets of which something holds with each other.
func modelSmallest(people []string, is func(set []string) bool) [][]string {
	l := slices.DeleteFunc(subsets(people), func(set []string) bool { return !is(set) })
	return slices.DeleteFunc(slices.Clone(l), func(set []string) bool {
		return slices.ContainsFunc(l, func(other []string) bool { return len(other) < len(set) && isPartOf(other, set) })
	})
}

// modelDecides counts the sets of which a person decides.
func modelDecides(r api.Rule, name string) int {
	count := 0
	for _, set := range subsets(modelPeople(r)) {
		if modelEnough(r, set) && !modelEnough(r, less(set, []string{name})) {
			count++
		}
	}
	return count
}

// modelNodes counts the nodes of a tree.
func modelNodes(r api.Rule) int {
	count := 1
	for _, part := range r.Parts {
		count += modelNodes(part)
	}
	return count
}

// modelPut writes a rule again with something else in place of people.
func modelPut(r api.Rule, by map[string]api.Rule) api.Rule {
	if other, is := by[r.Person]; is && r.Kind == api.RulePerson {
		return other
	}
	r.Parts = repeat(len(r.Parts), func(i int) api.Rule { return modelPut(r.Parts[i], by) })
	return r
}

// modelDid returns the people whose last act up to a day is of a kind.
func modelDid(l []api.Act, day, kind int) []string {
	last := map[string]int{}
	for _, a := range l {
		if a.Day <= day {
			last[a.Person] = a.Kind
		}
	}
	names := []string{}
	for name, k := range last {
		if k == kind {
			names = append(names, name)
		}
	}
	slices.Sort(names)
	return names
}

// modelIsPossible tells whether an act may be behind others.
func modelIsPossible(l []api.Act, a api.Act) bool {
	signed := slices.Contains(modelDid(l, api.MaxDay, api.ActSign), a.Person)
	against := slices.Contains(modelDid(l, api.MaxDay, api.ActRefuse), a.Person)
	switch a.Kind {
	case api.ActUnsign:
		return signed
	case api.ActRelent:
		return against
	}
	return !signed && !against
}

// modelState asks for all people who have signed or refused up to a day.
func modelState(r api.Rule, l []api.Act, day int) (int, []string) {
	people := modelPeople(r)
	signed, refused := modelDid(l, day, api.ActSign), modelDid(l, day, api.ActRefuse)
	for _, set := range modelSmallest(people, func(set []string) bool { return modelEnough(r, set) }) {
		if isPartOf(set, signed) {
			return 1, set
		}
	}
	for _, set := range modelSmallest(people, func(set []string) bool { return modelBlocks(r, set) }) {
		if isPartOf(set, refused) {
			return 2, set
		}
	}
	return 0, nil
}
