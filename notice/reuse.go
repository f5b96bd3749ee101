package notice

import "mortsafe/api"

// unknown stands for a day that is not known.
const unknown = -1

// What blocks a reuse.
const (
	byRight = iota
	byRest
	byNotice
)

// checkReuse checks a reuse, and returns the course of its notice.
func checkReuse(p api.Procedure, r api.Reuse) (course, api.Errno) {
	areDays := isFromTo(r.Right, unknown, api.MaxDay) && isFromTo(r.Rest, unknown, api.MaxDay)
	if e := firstError(CheckProcedure(p), errorIf(!areDays, api.ErrRange)); e != api.OK {
		return course{}, e
	}
	c, _, e := checked(p, r.Notice)
	return c, e
}

// Earliest returns the first day on which nothing blocks a reuse.
func Earliest(p api.Procedure, r api.Reuse) (int, api.Errno) {
	c, e := checkReuse(p, r)
	if e != api.OK {
		return 0, e
	}
	from, e := c.actOn(p)
	if e != api.OK || r.Right == unknown || r.Rest == unknown {
		return 0, api.ErrNone
	}
	return max(r.Right, r.Rest, from), api.OK
}

// Blocks returns by what a reuse is blocked on a day.
func Blocks(p api.Procedure, r api.Reuse, day int) ([]int, api.Errno) {
	c, e := checkReuse(p, r)
	if e := firstError(e, checkDay(day)); e != api.OK {
		return nil, e
	}
	from, e := c.actOn(p)
	var blocks []int
	if r.Right == unknown || r.Right > day {
		blocks = append(blocks, byRight)
	}
	if r.Rest == unknown || r.Rest > day {
		blocks = append(blocks, byRest)
	}
	if e != api.OK || from > day {
		blocks = append(blocks, byNotice)
	}
	return blocks, api.OK
}
