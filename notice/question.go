package notice

import (
	"slices"

	"mortsafe/api"
)

// courseOn checks the arguments of a question about a notice on a day, and returns its course
// behind the acts up to this day.
func courseOn(p api.Procedure, n api.Notice, day int) (course, api.Errno) {
	_, _, e := checked(p, n)
	if e := firstError(e, checkDay(day), errorIf(day < n.Opened, api.ErrEarly)); e != api.OK {
		return course{}, e
	}
	c, _, e := follow(p, n, upTo(day))
	return c, e
}

// Phase returns the phase of a notice on a day.
func Phase(p api.Procedure, n api.Notice, day int) (int, api.Errno) {
	c, e := courseOn(p, n, day)
	if e == api.OK && c.phase == running && day > c.deadline {
		return expired, api.OK
	}
	return c.phase, e
}

// runningOn returns the course of a notice that is running on a day, also if it has expired.
func runningOn(p api.Procedure, n api.Notice, day int) (course, api.Errno) {
	c, e := courseOn(p, n, day)
	if e := firstError(e, errorIf(c.phase != running, api.ErrNone)); e != api.OK {
		return course{}, e
	}
	return c, api.OK
}

// DeadlineAt returns the deadline that a notice has on a day.
func DeadlineAt(p api.Procedure, n api.Notice, day int) (int, api.Errno) {
	c, e := runningOn(p, n, day)
	return c.deadline, e
}

// ObjectUntil returns the last day for objections that a notice has on a day.
func ObjectUntil(p api.Procedure, n api.Notice, day int) (int, api.Errno) {
	c, e := runningOn(p, n, day)
	return c.objectUntil(), e
}

// checkFurther returns the error of one more act behind all acts of a notice.
func checkFurther(p api.Procedure, n api.Notice, c course, a api.NoticeAct) api.Errno {
	if len(n.Acts) == api.MaxNoticeActs {
		return api.ErrLarge
	}
	_, e := c.behind(p, a)
	return e
}

// Add returns a notice with one more act.
func Add(p api.Procedure, n api.Notice, a api.NoticeAct) (api.Notice, api.Errno) {
	c, _, e := checked(p, n)
	if e != api.OK {
		return api.Notice{}, e
	}
	if e := checkFurther(p, n, c, a); e != api.OK {
		return api.Notice{}, e
	}
	n.Acts = slices.Concat(n.Acts, []api.NoticeAct{a})
	return n, api.OK
}

// May returns the kinds of the acts that a notice may have on a day behind all others.
func May(p api.Procedure, n api.Notice, day int) ([]int, api.Errno) {
	c, _, e := checked(p, n)
	if e := firstError(e, checkDay(day)); e != api.OK {
		return nil, e
	}
	var kinds []int
	for kind := api.Served; kind <= api.Remedied; kind++ {
		a := api.NoticeAct{Day: day, Kind: kind}
		if kind == api.Extended {
			a.Days = 1
		}
		if checkFurther(p, n, c, a) == api.OK {
			kinds = append(kinds, kind)
		}
	}
	return kinds, api.OK
}

// ExpiresAt returns the day from which a notice may be acted on.
func ExpiresAt(p api.Procedure, n api.Notice) (int, api.Errno) {
	c, _, e := checked(p, n)
	if e != api.OK {
		return 0, e
	}
	return c.actOn(p)
}

// Due returns the notices that are running, with a deadline from a day up to another one, by
// their deadlines.
func Due(p api.Procedure, l []api.Notice, between [2]int) ([]int, api.Errno) {
	earlier := names{}
	var courses []course
	if e := firstError(CheckProcedure(p), checkEach(l, api.MaxNotices, func(n api.Notice) api.Errno {
		c, _, e := checked(p, n)
		courses = append(courses, c)
		return firstError(e, earlier.add(n.Name))
	}), checkDay(between[0]), checkDay(between[1]), errorIf(between[1] < between[0], api.ErrOrder)); e != api.OK {
		return nil, e
	}
	var due []int
	for i, c := range courses {
		if c.phase == running && isFromTo(c.deadline, between[0], between[1]) {
			due = append(due, i)
		}
	}
	slices.SortStableFunc(due, func(i, j int) int { return courses[i].deadline - courses[j].deadline })
	return due, api.OK
}
