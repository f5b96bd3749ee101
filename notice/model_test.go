package notice_test

import (
	"math/rand"
	"slices"
	"strings"

	"mortsafe/api"
	"mortsafe/rule"
)

// This file says again what chapter 8 says, slowly: calendars day by day, and of a notice each
// time all of its history.

// noModelDay stands for a day that there is not.
const noModelDay = -1

func modelIsWorking(p api.Procedure, day int) bool {
	is, e := rule.IsWorking(p.Holidays, day)
	return is && e == api.OK
}

// modelNext returns the n-th working day from a day on.
func modelNext(p api.Procedure, day, n int) int {
	for ; day <= api.MaxDay; day++ {
		if modelIsWorking(p, day) {
			if n--; n == 0 {
				return day
			}
		}
	}
	return noModelDay
}

func modelDeadline(p api.Procedure, day int, x api.Period) int {
	later, e := rule.AddMonths(day, x.Months)
	switch {
	case e != api.OK:
		return noModelDay
	case x.Working && x.Days > 0:
		return modelNext(p, later+1, x.Days)
	case x.Working:
		return modelNext(p, later, 1)
	}
	return modelNext(p, later+x.Days, 1)
}

// modelPhase is what the last act alone tells.
func modelPhase(l []api.NoticeAct) int {
	if len(l) == 0 {
		return 0
	}
	return [8]int{1, 2, 1, 3, 1, 5, 1, 4}[l[len(l)-1].Kind]
}

// lastOf returns the number of the last act of some kinds, or -1.
func lastOf(l []api.NoticeAct, kinds ...int) int {
	for i := len(l) - 1; i >= 0; i-- {
		if slices.Contains(kinds, l[i].Kind) {
			return i
		}
	}
	return -1
}

// modelDays returns the deadline and the deadline of objections behind acts that have begun a
// notice; the first one that is no day makes both none.
func modelDays(p api.Procedure, l []api.NoticeAct) (deadline, object int) {
	from := lastOf(l, api.Served, api.Published)
	deadline, object = modelDeadline(p, l[from].Day, p.Runs), modelDeadline(p, l[from].Day, p.Object)
	for i := from + 1; i < len(l) && deadline >= 0; i++ {
		switch l[i].Kind {
		case api.Extended:
			deadline = modelNext(p, deadline+l[i].Days, 1)
		case api.Dismissed:
			deadline = modelNext(p, deadline+l[i].Day-l[lastOf(l[:i], api.Objection)].Day, 1)
		}
	}
	if deadline < 0 || object < 0 {
		return noModelDay, noModelDay
	}
	return deadline, object
}

// modelForm is the error of an act by itself.
func modelForm(p api.Procedure, a api.NoticeAct) api.Errno {
	switch {
	case a.Day < 0 || a.Day > 200000:
		return api.ErrRange
	case a.Kind < 0 || a.Kind > 7:
		return api.ErrKind
	case a.Kind != api.Extended && a.Days != 0:
		return api.ErrForm
	case a.Kind == api.Extended && (a.Days < 1 || a.Days > p.Longest):
		return api.ErrRange
	}
	return api.OK
}

// modelAct is the error of an act behind others, which are right.
func modelAct(p api.Procedure, n api.Notice, l []api.NoticeAct, a api.NoticeAct) api.Errno {
	if e := modelForm(p, a); e != api.OK {
		return e
	}
	before := n.Opened
	if len(l) > 0 {
		before = l[len(l)-1].Day
	}
	if a.Day < before {
		return api.ErrOrder
	}
	// By the kinds of acts the phases in which they are accepted.
	accepted := [8]string{"0", "1", "2", "1", "3", "3", "1", "123"}[a.Kind]
	phase := modelPhase(l)
	if !strings.ContainsRune(accepted, rune('0'+phase)) {
		return api.ErrState
	}
	if phase == 1 {
		deadline, object := modelDays(p, l)
		if a.Day > deadline || a.Kind == api.Objection && a.Day > object {
			return api.ErrLate
		}
	}
	used := len(slices.DeleteFunc(slices.Clone(l), func(b api.NoticeAct) bool { return b.Kind != api.Extended }))
	if a.Kind == api.Extended && used >= p.Extensions {
		return api.ErrFull
	}
	// No act is accepted that leaves the notice open.
	if deadline, _ := modelDays(p, with(l, a)); deadline < 0 {
		return api.ErrRange
	}
	return api.OK
}

// modelCheck is the first act with an error.
func modelCheck(p api.Procedure, n api.Notice) (int, api.Errno) {
	for i, a := range n.Acts {
		if e := modelAct(p, n, n.Acts[:i], a); e != api.OK {
			return i, e
		}
	}
	return 0, api.OK
}

// modelUpTo are the acts up to a day.
func modelUpTo(n api.Notice, day int) []api.NoticeAct {
	return slices.DeleteFunc(slices.Clone(n.Acts), func(a api.NoticeAct) bool { return a.Day > day })
}

// modelOn returns what is true of a notice on a day, and -1 for days that there are not.
func modelOn(p api.Procedure, n api.Notice, day int) answers {
	l := modelUpTo(n, day)
	if modelPhase(l) != 1 {
		return answers{day, modelPhase(l), -1, -1}
	}
	deadline, object := modelDays(p, l)
	phase := 1
	if day > deadline {
		phase = 6
	}
	return answers{day, phase, deadline, min(deadline, object)}
}

// modelActOn returns the day from which a notice may be acted on.
func modelActOn(p api.Procedure, n api.Notice) (int, api.Errno) {
	if modelPhase(n.Acts) != 1 {
		return 0, api.ErrState
	}
	deadline, _ := modelDays(p, n.Acts)
	waited := modelDeadline(p, deadline, p.Wait)
	if waited < 0 || waited+1 > api.MaxDay {
		return 0, api.ErrRange
	}
	return waited + 1, api.OK
}

// modelGrade goes through the grades upwards.
func modelGrade(g api.Grading, v api.Visit) int {
	grade := 0
	for i := 1; i <= 3; i++ {
		if v.Kind == 0 && (g.Tilt[i-1] <= v.Tilt || v.Push <= g.Push[i-1]) {
			grade = i
		}
	}
	return grade
}

// modelLast returns the last visit up to a day; of a monument without one the day is -1.
func modelLast(m api.Monument, day int) api.Visit {
	last := api.Visit{Day: -1}
	for _, v := range m.Visits {
		if v.Day <= day {
			last = v
		}
	}
	return last
}

// modelRank is the grade and the day by which a monument stands in a round; of one that is in
// none the grade is -1.
func modelRank(g api.Grading, m api.Monument, day int) (grade, due int) {
	v := modelLast(m, day)
	if v.Day < 0 {
		return 4, 0
	}
	due, e := rule.AddMonths(v.Day, g.Months[modelGrade(g, v)])
	if e != api.OK || due > day || v.Kind == 2 {
		return -1, 0
	}
	return modelGrade(g, v), due
}

// modelRound looks for all grades, days and numbers one after the other.
func modelRound(g api.Grading, l []api.Monument, day int) []int {
	var round []int
	for grade := 4; grade >= 0; grade-- {
		for due := range day + 1 {
			for i, m := range l {
				if a, b := modelRank(g, m, day); a == grade && b == due {
					round = append(round, i)
				}
			}
		}
	}
	return round
}

// modelPlan goes through the days.
func modelPlan(p api.Procedure, order []int, at [2]int) []api.Stop {
	var plan []api.Stop
	for day := at[0]; len(plan) < len(order) && day <= api.MaxDay; day++ {
		for left := at[1]; left > 0 && len(plan) < len(order) && modelIsWorking(p, day); left-- {
			plan = append(plan, stop(order[len(plan)], day))
		}
	}
	return plan
}

// modelStop is the error of a stop behind others.
func modelStop(p api.Procedure, order []int, l []api.Stop, s api.Stop, at [2]int) api.Errno {
	same := 0
	for _, x := range l {
		if x.Day == s.Day {
			same++
		}
	}
	switch {
	case !slices.Contains(order, s.Monument):
		return api.ErrMissing
	case slices.ContainsFunc(l, func(x api.Stop) bool { return x.Monument == s.Monument }):
		return api.ErrExists
	case s.Day < 0 || s.Day > 200000:
		return api.ErrRange
	case s.Day < at[0]:
		return api.ErrEarly
	case !modelIsWorking(p, s.Day):
		return api.ErrState
	case same >= at[1]:
		return api.ErrFull
	}
	return api.OK
}

// modelCheckRound is the last day of a plan.
func modelCheckRound(p api.Procedure, order []int, l []api.Stop, at [2]int) (int, api.Errno) {
	last := at[0]
	for i, s := range l {
		if e := modelStop(p, order, l[:i], s, at); e != api.OK {
			return 0, e
		}
		last = max(last, s.Day)
	}
	for _, x := range order {
		if !slices.ContainsFunc(l, func(s api.Stop) bool { return s.Monument == x }) {
			return 0, api.ErrGap
		}
	}
	return last, api.OK
}

// randomProcedure has short times, so that the acts of random notices come before and behind
// all of its days.
func randomProcedure(r *rand.Rand) api.Procedure {
	period := func() api.Period {
		return api.Period{Months: r.Intn(6) / 5, Days: r.Intn(12), Working: r.Intn(2) == 0}
	}
	p := api.Procedure{Runs: period(), Object: period(), Wait: period(), Extensions: r.Intn(3), Longest: r.Intn(9)}
	if r.Intn(2) == 0 {
		p.Holidays = with(newYear(), api.Holiday{Name: "easter", Kind: 1, Day: 1}, api.Holiday{Name: "last", Kind: 2, Month: 8, Day: -1, Weekday: r.Intn(7)})
	}
	return p
}

// randomAct is mostly one that is accepted.
func randomAct(r *rand.Rand, p api.Procedure, l []api.NoticeAct, day int) api.NoticeAct {
	kinds := [6][]int{{0}, {1, 3, 6, 6, 7}, {2, 2, 2, 7}, {4, 4, 4, 5, 7}, {r.Intn(8)}, {r.Intn(8)}}[modelPhase(l)]
	a := api.NoticeAct{Day: day + r.Intn(9), Kind: pickOne(r, kinds)}
	if a.Kind == api.Extended {
		a.Days = 1 + r.Intn(1+p.Longest)
	}
	switch r.Intn(40) {
	case 0:
		a.Kind = r.Intn(10) - 1
	case 1:
		a.Days = r.Intn(12) - 1
	case 2:
		a.Day -= 8
	}
	return a
}

// randomNotice begins anywhere, with acts of which at most the last two are not accepted.
func randomNotice(r *rand.Rand, p api.Procedure) api.Notice {
	n := opened(pickOne(r, []int{0, 3, 350, 42000 + r.Intn(400), 199920 + r.Intn(60)}))
	day := n.Opened
	for range r.Intn(9) {
		a := randomAct(r, p, n.Acts, day)
		if modelAct(p, n, n.Acts, a) == api.OK {
			n.Acts = append(n.Acts, a)
			day = a.Day
		} else if r.Intn(8) == 0 {
			n.Acts = append(n.Acts, a, randomAct(r, p, n.Acts, day))
			return n
		}
	}
	return n
}

func randomGrading(r *rand.Rand) api.Grading {
	var g api.Grading
	for i := range 3 {
		g.Tilt[i], g.Push[i] = r.Intn(8), r.Intn(8)
	}
	for i := range 4 {
		g.Months[i] = r.Intn(4)
	}
	slices.Sort(g.Tilt[:])
	slices.Sort(g.Push[:])
	slices.Reverse(g.Push[:])
	slices.Sort(g.Months[:])
	slices.Reverse(g.Months[:])
	return g
}

// randomMonument is visited from a day on.
func randomMonument(r *rand.Rand, name string, day int) api.Monument {
	m := monument(name)
	for range r.Intn(4) {
		day += r.Intn(40)
		v := api.Visit{Day: min(day, 200000), Kind: r.Intn(3)}
		if v.Kind == 0 || r.Intn(2) == 0 {
			v.Kind, v.Tilt, v.Push = 0, r.Intn(9), r.Intn(9)
		}
		m.Visits = append(m.Visits, v)
	}
	return m
}
