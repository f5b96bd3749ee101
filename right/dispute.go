package right

import (
	"slices"

	"mortsafe/api"
)

// contradict tells whether records contradict each other.
func contradict(l []api.Record) bool {
	return twoContradict(l) || anyOverdrawn(l) || anyCircle(l)
}

// twoContradict tells whether two of some records contradict each other.
func twoContradict(l []api.Record) bool {
	for _, a := range l {
		for _, b := range l {
			if outlives(a, b) || holdsOther(a, b) || grantsOver(a, b) {
				return true
			}
		}
	}
	return false
}

// outlives tells whether a record says something of a person on a day behind that of its
// death. (The day of a record of a child is 0.)
func outlives(death, r api.Record) bool {
	return death.Kind == api.RecordDied && death.Name == r.Name && r.Day > death.Day
}

// holdOf tells whether two records say who holds a share of one place on one day.
func holdOf(a, b api.Record) bool {
	return a.Kind == api.RecordHolds && b.Kind == api.RecordHolds && a.Place == b.Place && a.Day == b.Day
}

func holdsOther(a, b api.Record) bool { return holdOf(a, b) && a.Name == b.Name && a.Share != b.Share }

func grantsOver(a, b api.Record) bool {
	return a.Kind == api.RecordGrant && b.Kind == api.RecordGrant &&
		a.Place == b.Place && a.Name != b.Name && a.Day < b.Until && b.Day < a.Until
}

// anyOverdrawn tells whether people hold more than the whole of a place on a day. None
// of them holds different shares.
func anyOverdrawn(l []api.Record) bool {
	for _, first := range l {
		held := shares{}
		for _, r := range l {
			if holdOf(first, r) {
				held[r.Name] = r.Share
			}
		}
		if compareFracs(total(held.parts()), whole) > 0 {
			return true
		}
	}
	return false
}

// anyCircle tells whether people are children of each other in a circle. As long as the
// parent of a record is nobody's child, the record is in no circle, and is left out.
func anyCircle(l []api.Record) bool {
	isOther := func(r api.Record) bool { return r.Kind != api.RecordChild }
	for left := slices.DeleteFunc(slices.Clone(l), isOther); len(left) > 0; {
		var inner []api.Record
		for _, r := range left {
			isParent := func(child api.Record) bool { return child.Name == r.Other }
			if slices.ContainsFunc(left, isParent) {
				inner = append(inner, r)
			}
		}
		if len(inner) == len(left) {
			return true
		}
		left = inner
	}
	return false
}

// Contradicts tells whether records contradict each other.
func Contradicts(l []api.Record) (bool, api.Errno) {
	if e := CheckRecords(l); e != api.OK {
		return false, e
	}
	return contradict(l), api.OK
}

// pick returns the records with some numbers.
func pick(l []api.Record, set []int) []api.Record {
	var picked []api.Record
	for _, number := range set {
		picked = append(picked, l[number])
	}
	return picked
}

// without returns a set without a number.
func without(set []int, number int) []int {
	isNumber := func(n int) bool { return n == number }
	return slices.DeleteFunc(slices.Clone(set), isNumber)
}

// Dispute returns records that contradict each other, of which none without one of them
// does.
func Dispute(l []api.Record) ([]int, api.Errno) {
	is, wrong := Contradicts(l)
	if e := firstError(wrong, errorIf(!is, api.ErrNone)); e != api.OK {
		return nil, e
	}
	var set []int
	for i := range l {
		set = append(set, i)
	}
	for i := range l {
		if fewer := without(set, i); contradict(pick(l, fewer)) {
			set = fewer
		}
	}
	return set, api.OK
}

// LeastDispute returns the fewest records that contradict each other. The first record
// is the highest bit of a number that stands for a set, so that of sets of one size the
// greatest number is that of the first one lexicographically.
func LeastDispute(l []api.Record) ([]int, api.Errno) {
	if e := firstError(CheckRecords(l), errorIf(len(l) > api.MaxFewRecords, api.ErrLarge)); e != api.OK {
		return nil, e
	}
	var least []int
	for bits := 1<<len(l) - 1; bits > 0; bits-- {
		var set []int
		for i := range l {
			if bits&(1<<(len(l)-1-i)) != 0 {
				set = append(set, i)
			}
		}
		if (least == nil || len(set) < len(least)) && contradict(pick(l, set)) {
			least = set
		}
	}
	return least, errorIf(least == nil, api.ErrNone)
}

// CheckDispute accepts records that contradict each other, of which none without one of
// them does.
func CheckDispute(l []api.Record, set []int) api.Errno {
	if e := CheckRecords(l); e != api.OK {
		return e
	}
	isMissing := func(number int) bool { return !isFromTo(number, 0, len(l)-1) }
	if slices.ContainsFunc(set, isMissing) {
		return api.ErrMissing
	}
	for i := range set {
		if i > 0 && set[i] <= set[i-1] {
			return api.ErrOrder
		}
	}
	isNeedless := func(number int) bool { return contradict(pick(l, without(set, number))) }
	return errorIf(!contradict(pick(l, set)) || slices.ContainsFunc(set, isNeedless), api.ErrProof)
}
