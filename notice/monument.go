package notice

import (
	"cmp"
	"slices"

	"mortsafe/api"
	"mortsafe/rule"
)

const (
	maxTilt   = 1000
	maxPush   = 5000
	maxMonths = 240
)

// The kinds of visits.
const (
	inspected = iota
	repaired
	laidDown
)

// unvisited stands for the grade of a monument without a visit, which is visited before those
// of all grades.
const unvisited = 4

// CheckGrading tells whether a grading is right.
func CheckGrading(g api.Grading) api.Errno {
	areInRange := areUpTo(maxTilt, g.Tilt[:]...) && areUpTo(maxPush, g.Push[:]...) && areUpTo(maxMonths, g.Months[:]...)
	return firstError(
		errorIf(!areInRange, api.ErrRange),
		errorIf(!slices.IsSorted(g.Tilt[:]) || rises(g.Push[:]) || rises(g.Months[:]), api.ErrOrder),
	)
}

// rises tells whether a number is greater than the one before it.
func rises(l []int) bool {
	for i := 1; i < len(l); i++ {
		if l[i-1] < l[i] {
			return true
		}
	}
	return false
}

func checkVisit(v api.Visit) api.Errno {
	isInRange := isDay(v.Day) && isFromTo(v.Kind, inspected, laidDown) && areUpTo(maxTilt, v.Tilt) && areUpTo(maxPush, v.Push)
	return firstError(
		errorIf(!isInRange, api.ErrRange),
		errorIf(v.Kind != inspected && (v.Tilt != 0 || v.Push != 0), api.ErrForm),
	)
}

// GradeOf returns the grade of an inspection.
func GradeOf(g api.Grading, v api.Visit) (int, api.Errno) {
	if e := firstError(CheckGrading(g), checkVisit(v), errorIf(v.Kind != inspected, api.ErrKind)); e != api.OK {
		return 0, e
	}
	return gradeBehind(g, v), api.OK
}

// gradeBehind returns the grade that a monument has behind a visit.
func gradeBehind(g api.Grading, v api.Visit) int {
	if v.Kind != inspected {
		return 0
	}
	grade := len(g.Tilt)
	for grade > 0 && v.Tilt < g.Tilt[grade-1] && v.Push > g.Push[grade-1] {
		grade--
	}
	return grade
}

// CheckMonument tells whether a monument and its visits are right.
func CheckMonument(m api.Monument) api.Errno {
	before := 0
	return firstError(
		errorIf(!isName(m.Name) || !isName(m.Place), api.ErrName),
		checkEach(m.Visits, api.MaxVisits, func(v api.Visit) api.Errno {
			isEarlier := v.Day < before
			before = v.Day
			return firstError(checkVisit(v), errorIf(isEarlier, api.ErrOrder))
		}),
	)
}

// lastVisit returns the last visit of a monument up to a day, and whether there is one.
func lastVisit(m api.Monument, day int) (api.Visit, bool) {
	for _, v := range slices.Backward(m.Visits) {
		if v.Day <= day {
			return v, true
		}
	}
	return api.Visit{}, false
}

// visitThatCounts checks the arguments of a question about a monument on a day, and returns
// its last visit.
func visitThatCounts(g api.Grading, m api.Monument, day int) (api.Visit, api.Errno) {
	if e := firstError(CheckGrading(g), CheckMonument(m), checkDay(day)); e != api.OK {
		return api.Visit{}, e
	}
	v, is := lastVisit(m, day)
	return v, errorIf(!is, api.ErrMissing)
}

// GradeAt returns the grade of a monument on a day.
func GradeAt(g api.Grading, m api.Monument, day int) (int, api.Errno) {
	v, e := visitThatCounts(g, m, day)
	if e != api.OK {
		return 0, e
	}
	return gradeBehind(g, v), api.OK
}

// NextVisit returns the day on which a monument's next visit is due, by its visits up to a day.
func NextVisit(g api.Grading, m api.Monument, day int) (int, api.Errno) {
	v, e := visitThatCounts(g, m, day)
	if e != api.OK {
		return 0, e
	}
	return dueBehind(g, v)
}

// dueBehind returns the day on which the visit behind another one is due.
func dueBehind(g api.Grading, v api.Visit) (int, api.Errno) {
	if v.Kind == laidDown {
		return 0, api.ErrState
	}
	return rule.AddMonths(v.Day, g.Months[gradeBehind(g, v)])
}

// call is a monument that is to be visited.
type call struct{ monument, grade, due int }

// Round returns the monuments that are to be visited on a day, the most urgent ones first.
func Round(g api.Grading, l []api.Monument, day int) ([]int, api.Errno) {
	earlier := names{}
	if e := firstError(CheckGrading(g), checkEach(l, api.MaxMonuments, func(m api.Monument) api.Errno {
		return firstError(CheckMonument(m), earlier.add(m.Name))
	}), checkDay(day)); e != api.OK {
		return nil, e
	}
	calls := callsOn(g, l, day)
	slices.SortStableFunc(calls, func(a, b call) int {
		return cmp.Or(b.grade-a.grade, a.due-b.due)
	})
	round := make([]int, len(calls))
	for i, c := range calls {
		round[i] = c.monument
	}
	return round, api.OK
}

// callsOn returns the monuments that are to be visited on a day, by their numbers.
func callsOn(g api.Grading, l []api.Monument, day int) []call {
	var calls []call
	for i, m := range l {
		v, is := lastVisit(m, day)
		if !is {
			calls = append(calls, call{monument: i, grade: unvisited})
			continue
		}
		if due, e := dueBehind(g, v); e == api.OK && due <= day {
			calls = append(calls, call{monument: i, grade: gradeBehind(g, v), due: due})
		}
	}
	return calls
}
