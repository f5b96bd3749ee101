package office

import (
	"slices"

	"mortsafe/api"
)

// without returns a list without one of its elements.
func without[T any](l []T, i int) []T { return slices.Concat(l[:i], l[i+1:]) }

// needed returns facts on which an answer depends: from the last one to the first, each one is
// left out if the answer is the same without it. Behind a round in which one was left out the
// others are looked at again, since a fact may matter only as long as another one is there.
func (a asked) needed(answer string) []item {
	facts := a.facts
	for before := -1; before != len(facts); {
		before = len(facts)
		for i := before - 1; i >= 0; i-- {
			if fewer := without(facts, i); a.answerOf(fewer) == answer {
				facts = fewer
			}
		}
	}
	return facts
}

// Search returns the answer to a query, and the keys of the entries on which it depends.
func Search(b api.Base, l []api.Entry, q api.Query) (string, []api.Key, api.Errno) {
	a, wrong := ask(b, l, q)
	if e := firstError(wrong, errorIf(len(a.facts) > api.MaxSearch, api.ErrLarge)); e != api.OK {
		return "", nil, e
	}
	answer := a.answerOf(a.facts)
	var keys []api.Key
	for _, x := range a.needed(answer) {
		keys = append(keys, keyOf(x.Entry))
	}
	slices.SortFunc(keys, compareKeys)
	return answer, keys, api.OK
}

// CheckSearch accepts an answer, and the keys of entries on which it depends.
func CheckSearch(b api.Base, l []api.Entry, q api.Query, f api.Finding) api.Errno {
	a, e := ask(b, l, q)
	if e != api.OK {
		return e
	}
	if e := a.checkKeys(f.Keys); e != api.OK {
		return e
	}
	return errorIf(!a.isProved(f), api.ErrProof)
}

// checkKeys returns the error of keys, which have to be those of facts, and to ascend strictly.
func (a asked) checkKeys(keys []api.Key) api.Errno {
	isFact := map[api.Key]bool{}
	for _, x := range a.facts {
		isFact[keyOf(x.Entry)] = true
	}
	for _, k := range keys {
		if !isFact[k] {
			return api.ErrMissing
		}
	}
	for i := 1; i < len(keys); i++ {
		if compareKeys(keys[i-1], keys[i]) >= 0 {
			return api.ErrOrder
		}
	}
	return api.OK
}

// isProved tells whether the answer of a finding is right, its facts are enough for it, and none
// of them can be left out.
func (a asked) isProved(f api.Finding) bool {
	isIn := map[api.Key]bool{}
	for _, k := range f.Keys {
		isIn[k] = true
	}
	facts := slices.DeleteFunc(slices.Clone(a.facts), func(x item) bool { return !isIn[keyOf(x.Entry)] })
	if a.answerOf(a.facts) != f.Answer || a.answerOf(facts) != f.Answer {
		return false
	}
	for i := range facts {
		if a.answerOf(without(facts, i)) == f.Answer {
			return false
		}
	}
	return true
}
