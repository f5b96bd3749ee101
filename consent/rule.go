package consent

import (
	"iter"
	"slices"

	"mortsafe/api"
)

const mostNeed = 50000

// nodes yields the nodes of a tree, a node before its parts.
func nodes(r api.Rule) iter.Seq[api.Rule] {
	return func(yield func(api.Rule) bool) { walk(r, yield) }
}

// walk tells whether all nodes of a tree were taken.
func walk(r api.Rule, yield func(api.Rule) bool) bool {
	if !yield(r) {
		return false
	}
	for _, part := range r.Parts {
		if !walk(part, yield) {
			return false
		}
	}
	return true
}

// isLarge tells whether a tree has too many nodes. It looks at no further ones, since a
// slice of parts may contain itself.
func isLarge(r api.Rule) bool {
	count := 0
	for range nodes(r) {
		count++
		if count > api.MaxTree {
			return true
		}
	}
	return false
}

// CheckRule returns the error of a rule.
func CheckRule(r api.Rule) api.Errno {
	if isLarge(r) {
		return api.ErrLarge
	}
	for n := range nodes(r) {
		if e := checkNode(n); e != api.OK {
			return e
		}
	}
	return api.OK
}

func checkNode(n api.Rule) api.Errno {
	e := firstError(
		errorIf(!isFromTo(n.Kind, api.RulePerson, api.RuleSum), api.ErrKind),
		errorIf(n.Kind == api.RulePerson && !isName(n.Person), api.ErrName),
		errorIf(!isOfKind(n), api.ErrForm),
	)
	if e != api.OK || n.Kind != api.RuleSum {
		return e
	}
	return firstError(
		errorIf(len(n.Weights) != len(n.Parts), api.ErrShape),
		errorIf(slices.ContainsFunc(n.Weights, isNoWeight), api.ErrRange),
		errorIf(!isFromTo(n.Need, 0, mostNeed), api.ErrRange),
	)
}

// isOfKind tells whether a node has no fields but those of its kind.
func isOfKind(n api.Rule) bool {
	isPerson, isSum := n.Kind == api.RulePerson, n.Kind == api.RuleSum
	return (n.Person == "" || isPerson) &&
		(len(n.Parts) == 0 || !isPerson) &&
		(len(n.Weights) == 0 && n.Need == 0 || isSum)
}

func isNoWeight(n int) bool { return !isFromTo(n, 1, api.MaxWeight) }

// isEnough tells whether those who agree are enough for a rule.
func isEnough(r api.Rule, agrees func(name string) bool) bool {
	isOfPart := func(part api.Rule) bool { return isEnough(part, agrees) }
	isNotOfPart := func(part api.Rule) bool { return !isEnough(part, agrees) }
	switch r.Kind {
	case api.RuleAll:
		return !slices.ContainsFunc(r.Parts, isNotOfPart)
	case api.RuleAny:
		return slices.ContainsFunc(r.Parts, isOfPart)
	case api.RuleSum:
		weight := 0
		for i, part := range r.Parts {
			if isOfPart(part) {
				weight += r.Weights[i]
			}
		}
		return weight >= r.Need
	}
	return agrees(r.Person)
}
