package allot

import (
	"slices"

	"mortsafe/api"
)

// CheckAllot returns how many wishes a right allotment places.
func CheckAllot(w []api.Wish, v []api.Vacancy, a []int) (int, api.Errno) {
	if _, e := Left(w, v, a); e != api.OK {
		return 0, e
	}
	return placed(a), api.OK
}

// Left returns the room that an allotment leaves of each vacancy.
func Left(w []api.Wish, v []api.Vacancy, a []int) ([]int, api.Errno) {
	if e := firstError(check(w, v), errorIf(len(a) != len(w), api.ErrShape)); e != api.OK {
		return nil, e
	}
	left, isNone := rooms(v), lacks(len(v))
	for wish, vacancy := range a {
		switch {
		case vacancy == nowhere:
			continue
		case isNone(vacancy):
			return nil, api.ErrMissing
		case !suits(w[wish], v[vacancy]):
			return nil, api.ErrKind
		case left[vacancy] == 0:
			return nil, api.ErrFull
		}
		left[vacancy]--
	}
	return left, api.OK
}

// InOrder gives wish by wish the first vacancy that suits and has room left.
func InOrder(w []api.Wish, v []api.Vacancy) ([]int, api.Errno) {
	if e := check(w, v); e != api.OK {
		return nil, e
	}
	a, left := make([]int, len(w)), rooms(v)
	for wish, l := range pairs(w, v) {
		a[wish] = nowhere
		if i := slices.IndexFunc(l, func(vacancy int) bool { return left[vacancy] > 0 }); i >= 0 {
			a[wish] = l[i]
			left[l[i]]--
		}
	}
	return a, api.OK
}

// CheckCover returns the weight of a cover.
func CheckCover(w []api.Wish, v []api.Vacancy, c api.Cover) (int, api.Errno) {
	isMissing := slices.ContainsFunc(c.Wishes, lacks(len(w))) || slices.ContainsFunc(c.Vacancies, lacks(len(v)))
	if e := firstError(
		check(w, v),
		errorIf(isMissing, api.ErrMissing),
		errorIf(!ascends(c.Wishes) || !ascends(c.Vacancies), api.ErrOrder),
	); e != api.OK {
		return 0, e
	}
	if hasGap(pairs(w, v), c) {
		return 0, api.ErrGap
	}
	weight := len(c.Wishes)
	for _, vacancy := range c.Vacancies {
		weight += v[vacancy].Room
	}
	return weight, api.OK
}

// hasGap tells whether a cover misses one of the pairs.
func hasGap(pairs [][]int, c api.Cover) bool {
	isOutside := func(vacancy int) bool { return !slices.Contains(c.Vacancies, vacancy) }
	for wish, l := range pairs {
		if !slices.Contains(c.Wishes, wish) && slices.ContainsFunc(l, isOutside) {
			return true
		}
	}
	return false
}
