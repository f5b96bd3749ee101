package notice

import (
	"iter"
	"slices"

	"mortsafe/api"
	"mortsafe/rule"
)

const (
	maxExtensions = 12
	maxLongest    = 3660
)

// The phases of a notice.
const (
	open = iota
	running
	returned
	contested
	remedied
	upheld
	expired
)

// CheckProcedure tells whether a procedure is right.
func CheckProcedure(p api.Procedure) api.Errno {
	return firstError(
		rule.CheckPeriod(p.Runs),
		rule.CheckPeriod(p.Object),
		rule.CheckPeriod(p.Wait),
		errorIf(!areUpTo(maxExtensions, p.Extensions) || !areUpTo(maxLongest, p.Longest), api.ErrRange),
		rule.CheckHolidays(p.Holidays),
	)
}

// effect is the phases in which an act is accepted, and the phase behind it.
type effect struct {
	in   []int
	then int
}

// effects returns those of the acts, by their kinds.
func effects() map[int]effect {
	return map[int]effect{
		api.Served:    {[]int{open}, running},
		api.Returned:  {[]int{running}, returned},
		api.Published: {[]int{returned}, running},
		api.Objection: {[]int{running}, contested},
		api.Dismissed: {[]int{contested}, running},
		api.Upheld:    {[]int{contested}, upheld},
		api.Extended:  {[]int{running}, running},
		api.Remedied:  {[]int{running, returned, contested}, remedied},
	}
}

// course is how far a notice is behind some acts: its phase, the day of the last act, the
// deadline, the deadline of objections, the day of the last objection, and the extensions
// that were used.
type course struct {
	phase, day, deadline, object, objected, extended int
}

// acts yields the acts of a notice that meet a condition, with their numbers.
func acts(n api.Notice, is func(api.NoticeAct) bool) iter.Seq2[int, api.NoticeAct] {
	return func(yield func(int, api.NoticeAct) bool) {
		for i, a := range n.Acts {
			if is(a) && !yield(i, a) {
				return
			}
		}
	}
}

func anyAct(api.NoticeAct) bool { return true }

// upTo returns the condition that an act is on a day or before it.
func upTo(day int) func(api.NoticeAct) bool {
	return func(a api.NoticeAct) bool { return a.Day <= day }
}

// follow returns the course of a notice behind the acts that meet a condition; if one of them
// has an error, its number, too.
func follow(p api.Procedure, n api.Notice, is func(api.NoticeAct) bool) (course, int, api.Errno) {
	c := course{day: n.Opened}
	for i, a := range acts(n, is) {
		further, e := c.behind(p, a)
		if e != api.OK {
			return course{}, i, e
		}
		c = further
	}
	return c, 0, api.OK
}

// checked checks a notice, and returns its course behind all acts, or the number of the act
// that has an error.
func checked(p api.Procedure, n api.Notice) (course, int, api.Errno) {
	if e := firstError(
		CheckProcedure(p),
		errorIf(!isName(n.Name), api.ErrName),
		checkDay(n.Opened),
		errorIf(len(n.Acts) > api.MaxNoticeActs, api.ErrLarge),
	); e != api.OK {
		return course{}, 0, e
	}
	return follow(p, n, anyAct)
}

// CheckNotice tells whether a notice is right; if an act has an error, its number, too.
func CheckNotice(p api.Procedure, n api.Notice) (int, api.Errno) {
	_, i, e := checked(p, n)
	return i, e
}

// behind returns the course behind one more act, or the act's error.
func (c course) behind(p api.Procedure, a api.NoticeAct) (course, api.Errno) {
	if e := firstError(checkForm(p, a), c.refuses(p, a)); e != api.OK {
		return course{}, e
	}
	c.phase, c.day = effects()[a.Kind].then, a.Day
	e := api.OK
	switch a.Kind {
	case api.Served, api.Published:
		e = c.begin(p)
	case api.Objection:
		c.objected = a.Day
	case api.Dismissed:
		e = c.move(p, a.Day-c.objected)
	case api.Extended:
		c.extended++
		e = c.move(p, a.Days)
	}
	return c, e
}

// checkForm returns the error that an act has whatever the notice is.
func checkForm(p api.Procedure, a api.NoticeAct) api.Errno {
	_, isKind := effects()[a.Kind]
	extends := a.Kind == api.Extended
	return firstError(
		checkDay(a.Day),
		errorIf(!isKind, api.ErrKind),
		errorIf(!extends && a.Days != 0, api.ErrForm),
		errorIf(extends && !isFromTo(a.Days, 1, p.Longest), api.ErrRange),
	)
}

// refuses returns the error of an act that does not fit behind the acts before it.
func (c course) refuses(p api.Procedure, a api.NoticeAct) api.Errno {
	isAccepted := slices.Contains(effects()[a.Kind].in, c.phase)
	isLate := c.phase == running && a.Day > c.deadline || a.Kind == api.Objection && a.Day > c.objectUntil()
	return firstError(
		errorIf(a.Day < c.day, api.ErrOrder),
		errorIf(!isAccepted, api.ErrState),
		errorIf(isLate, api.ErrLate),
		errorIf(a.Kind == api.Extended && c.extended == p.Extensions, api.ErrFull),
	)
}

// begin sets the deadlines of a notice that begins to run with its last act.
func (c *course) begin(p api.Procedure) api.Errno {
	var runs, objects api.Errno
	c.deadline, runs = rule.Deadline(p.Holidays, c.day, p.Runs)
	c.object, objects = rule.Deadline(p.Holidays, c.day, p.Object)
	return firstError(runs, objects)
}

// move moves the deadline by days.
func (c *course) move(p api.Procedure, days int) api.Errno {
	var e api.Errno
	c.deadline, e = rule.AddWorking(p.Holidays, c.deadline+days, 0)
	return e
}

// objectUntil returns the last day for objections.
func (c course) objectUntil() int { return min(c.object, c.deadline) }

// actOn returns the day from which a notice may be acted on.
func (c course) actOn(p api.Procedure) (int, api.Errno) {
	if c.phase != running {
		return 0, api.ErrState
	}
	waited, e := rule.Deadline(p.Holidays, c.deadline, p.Wait)
	if e != api.OK {
		return 0, e
	}
	// It is a day, since the last one of all is a Saturday, and no deadline.
	return waited + 1, api.OK
}
