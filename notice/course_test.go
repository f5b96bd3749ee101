package notice_test

import (
	"slices"
	"testing"

	"mortsafe/api"
	"mortsafe/notice"
)

// P8.4: procedures are right up to the ends of all ranges.
func TestRightProcedures(t *testing.T) {
	for i, how := range []func(*api.Procedure){
		func(p *api.Procedure) {},
		func(p *api.Procedure) { *p = api.Procedure{} },
		func(p *api.Procedure) { p.Runs = api.Period{Months: 1200, Days: 36500} },
		func(p *api.Procedure) { p.Object = api.Period{Months: 1200, Days: 2000, Working: true} },
		func(p *api.Procedure) { p.Wait = api.Period{Days: 36500} },
		func(p *api.Procedure) { p.Extensions, p.Longest = 12, 3660 },
		func(p *api.Procedure) { p.Extensions, p.Longest = 0, 0 },
		func(p *api.Procedure) { p.Holidays = []api.Holiday{} },
		func(p *api.Procedure) { p.Holidays = newYear() },
	} {
		if e := notice.CheckProcedure(change(procedure(), how)); e != api.OK {
			t.Error(i, e)
		}
	}
}

func wrongProcedures() []wrong[api.Procedure] {
	l := []wrong[api.Procedure]{
		{func(p *api.Procedure) { p.Extensions = 13 }, api.ErrRange},
		{func(p *api.Procedure) { p.Longest = 3661 }, api.ErrRange},
		{func(p *api.Procedure) { p.Holidays = make([]api.Holiday, 41) }, api.ErrLarge},
		{func(p *api.Procedure) { p.Holidays = make([]api.Holiday, 1) }, api.ErrName},
		{func(p *api.Procedure) { p.Holidays = with(newYear(), newYear()...) }, api.ErrExists},
		{func(p *api.Procedure) { p.Holidays = []api.Holiday{{Name: "h", Month: 2, Day: 30}} }, api.ErrDate},
		{func(p *api.Procedure) { p.Holidays = []api.Holiday{{Name: "h", Kind: 1, Month: 1}} }, api.ErrForm},
		{func(p *api.Procedure) { p.Longest, p.Holidays = -1, make([]api.Holiday, 41) }, api.ErrRange},
		{func(p *api.Procedure) { p.Extensions, p.Holidays = 13, make([]api.Holiday, 1) }, api.ErrRange},
		{func(p *api.Procedure) { p.Wait.Days, p.Holidays = -1, make([]api.Holiday, 1) }, api.ErrRange},
	}
	for _, n := range extremes {
		l = append(l,
			wrong[api.Procedure]{func(p *api.Procedure) { p.Extensions = n }, api.ErrRange},
			wrong[api.Procedure]{func(p *api.Procedure) { p.Longest = n }, api.ErrRange},
		)
	}
	for _, wrongPeriod := range []api.Period{{Months: -1}, {Months: 1201}, {Days: -1}, {Days: 36501}, {Days: 2001, Working: true}} {
		l = append(l,
			wrong[api.Procedure]{func(p *api.Procedure) { p.Runs = wrongPeriod }, api.ErrRange},
			wrong[api.Procedure]{func(p *api.Procedure) { p.Object = wrongPeriod }, api.ErrRange},
			wrong[api.Procedure]{func(p *api.Procedure) { p.Wait = wrongPeriod }, api.ErrRange},
		)
	}
	return l
}

// P8.4: the errors of procedures, which all functions tell that have one, before those of the
// other arguments.
func TestWrongProcedures(t *testing.T) {
	for _, c := range wrongProcedures() {
		checkAll(t, "a wrong procedure", allOfProcedures(), change(procedure(), c.how), c.want)
	}
}

// checkWrongNotice expects an error of all functions of a notice, CheckNotice with a number.
func checkWrongNotice(t *testing.T, p api.Procedure, n api.Notice, i int, want api.Errno) {
	t.Helper()
	if got, e := notice.CheckNotice(p, n); got != i || e != want {
		t.Errorf("CheckNotice of %v: %d %d, not %d %d", n, got, e, i, want)
	}
	checkAll(t, "a wrong notice", allOfNotices(p), n, want)
}

// P8.4: the errors of notices before those of their acts.
func TestWrongNotices(t *testing.T) {
	long := opened(0, make([][3]int, 41)...)
	for _, name := range wrongNames {
		checkWrongNotice(t, procedure(), named(name, opened(0)), 0, api.ErrName)
		checkWrongNotice(t, procedure(), named(name, opened(-1, [3]int{-1})), 0, api.ErrName)
	}
	for _, day := range noDays {
		checkWrongNotice(t, procedure(), opened(day), 0, api.ErrRange)
		checkWrongNotice(t, procedure(), change(long, func(n *api.Notice) { n.Opened = day }), 0, api.ErrRange)
	}
	checkWrongNotice(t, procedure(), long, 0, api.ErrLarge)
	checkWrongNotice(t, procedure(), opened(0, repeat(41, func(int) [3]int { return [3]int{-1} })...), 0, api.ErrLarge)
	checkWrongNotice(t, procedure(), opened(0, with([][3]int{{0, api.Served}}, make([][3]int, 39)...)...), 1, api.ErrState)
	for _, name := range rightNames {
		i, e := notice.CheckNotice(procedure(), named(name, opened(200000)))
		check(t, "CheckNotice", i, e, 0)
	}
	for n := range 40 {
		i, e := notice.CheckNotice(procedure(), longNotice(n+1))
		check(t, "CheckNotice of many acts", i, e, 0)
	}
}

// furtherAct is an act behind others, with its error.
type furtherAct struct {
	before [][3]int
	act    [3]int
	want   api.Errno
}

// checkActs tells of acts what they are behind others, by CheckNotice and by Add; wrong acts
// behind a wrong one do not count.
func checkActs(t *testing.T, p api.Procedure, start int, l []furtherAct) {
	t.Helper()
	for _, c := range l {
		before, all := opened(start, c.before...), opened(start, with(c.before, c.act)...)
		if i, e := notice.CheckNotice(p, before); i != 0 || e != api.OK {
			t.Fatal(before, i, e)
		}
		got, e := notice.Add(p, before, act(c.act))
		checkAnswer(t, "Add", got, e, all, c.want)
		if c.want == api.OK {
			i, e := notice.CheckNotice(p, all)
			check(t, "CheckNotice", i, e, 0)
			continue
		}
		checkWrongNotice(t, p, all, len(c.before), c.want)
		checkWrongNotice(t, p, opened(start, with(c.before, c.act, [3]int{-1}, [3]int{0, 99})...), len(c.before), c.want)
	}
}

// inPhase returns acts on day 0 behind which a notice is in each phase but 6.
func inPhase() [6][][3]int {
	served := [3]int{0, api.Served}
	return [6][][3]int{
		{}, {served}, {served, {0, api.Returned}}, {served, {0, api.Objection}}, {served, {0, api.Remedied}},
		{served, {0, api.Objection}, {0, api.Upheld}},
	}
}

// P8.4: the errors of an act that do not depend on those before it, in their order: they are
// told in all phases.
func TestFormsOfActs(t *testing.T) {
	for _, before := range inPhase() {
		var l []furtherAct
		add := func(a [3]int, want api.Errno) { l = append(l, furtherAct{before, a, want}) }
		for _, n := range noDays {
			add([3]int{n, api.Served}, api.ErrRange)
			add([3]int{n, 8, 1}, api.ErrRange)
			add([3]int{n, api.Extended, 31}, api.ErrRange)
			add([3]int{n, api.Served, 1}, api.ErrRange)
		}
		for _, n := range with(extremes, 8) {
			add([3]int{0, n}, api.ErrKind)
			add([3]int{0, n, 1}, api.ErrKind)
		}
		for kind := range 8 {
			for _, n := range with(extremes, 1, 30) {
				if kind != api.Extended {
					add([3]int{0, kind, n}, api.ErrForm)
				}
			}
		}
		for _, n := range with(extremes, 0, 31, 3660) {
			add([3]int{0, api.Extended, n}, api.ErrRange)
		}
		checkActs(t, procedure(), 0, l)
	}
	short := change(procedure(), func(p *api.Procedure) { p.Longest = 0 })
	served := [][3]int{{0, api.Served}}
	checkActs(t, short, 0, []furtherAct{{served, [3]int{0, api.Extended, 1}, api.ErrRange}, {served, [3]int{0, api.Extended, 0}, api.ErrRange}})
	long := change(procedure(), func(p *api.Procedure) { p.Longest = 3660 })
	checkActs(t, long, 0, []furtherAct{{served, [3]int{0, api.Extended, 1}, api.OK}, {served, [3]int{0, api.Extended, 3660}, api.OK}, {served, [3]int{0, api.Extended, 3661}, api.ErrRange}})
}

// P8.4: acts do not come before those before them, nor before the notice was opened: that is
// told behind the error of a form, and before that of a phase.
func TestOrderOfActs(t *testing.T) {
	served := [][3]int{{5, api.Served}}
	checkActs(t, procedure(), 5, []furtherAct{
		{nil, [3]int{4, api.Served}, api.ErrOrder},
		{nil, [3]int{0, api.Upheld}, api.ErrOrder},
		{nil, [3]int{4, api.Extended, 31}, api.ErrRange},
		{nil, [3]int{4, api.Served, 1}, api.ErrForm},
		{nil, [3]int{4, 8}, api.ErrKind},
		{nil, [3]int{5, api.Served}, api.OK},
		{served, [3]int{4, api.Returned}, api.ErrOrder},
		{served, [3]int{4, api.Served}, api.ErrOrder},
		{served, [3]int{5, api.Returned}, api.OK},
		{with(served, [3]int{7, api.Returned}), [3]int{6, api.Published}, api.ErrOrder},
		{with(served, [3]int{7, api.Returned}), [3]int{7, api.Published}, api.OK},
		{with(served, [3]int{7, api.Remedied}), [3]int{6, api.Remedied}, api.ErrOrder},
	})
}

// phaseBehind returns by phase and kind the phase behind an act, or -1: as the table of the
// chapter says.
func phaseBehind() [6][8]int {
	return [6][8]int{
		{1, -1, -1, -1, -1, -1, -1, -1},
		{-1, 2, -1, 3, -1, -1, 1, 4},
		{-1, -1, 1, -1, -1, -1, -1, 4},
		{-1, -1, -1, -1, 1, 5, -1, 4},
		{-1, -1, -1, -1, -1, -1, -1, -1},
		{-1, -1, -1, -1, -1, -1, -1, -1},
	}
}

// P8.4: which acts are accepted in which phase, on all days of a notice, and what they do; no
// acts come behind remedied and upheld notices (P8.11).
func TestPhases(t *testing.T) {
	for phase, before := range inPhase() {
		n := opened(0, before...)
		got, e := notice.Phase(procedure(), n, 0)
		check(t, "Phase", got, e, phase)
		var may []int
		for kind, then := range phaseBehind()[phase] {
			a := [3]int{12, kind}
			if kind == api.Extended {
				a[2] = 30
			}
			if then < 0 {
				for _, day := range []int{0, 12, 13, 33, 34, 200000} {
					a[0] = day
					checkActs(t, procedure(), 0, []furtherAct{{before, a, api.ErrState}})
				}
				continue
			}
			may = append(may, kind)
			checkActs(t, procedure(), 0, []furtherAct{{before, a, api.OK}})
			got, e = notice.Phase(procedure(), opened(0, with(before, a)...), 12)
			check(t, "Phase behind an act", got, e, then)
		}
		got2, e := notice.May(procedure(), n, 12)
		check(t, "May", got2, e, may)
	}
}

// P8.4: what comes too late; a contested or returned notice does not expire.
func TestLateActs(t *testing.T) {
	all := inPhase()
	returned, contested := all[2], all[3]
	dismissed := with(contested, [3]int{0, api.Dismissed})
	var l []furtherAct
	for _, before := range [][][3]int{all[1], dismissed} {
		l = append(l,
			furtherAct{before, [3]int{33, api.Returned}, api.OK}, furtherAct{before, [3]int{34, api.Returned}, api.ErrLate},
			furtherAct{before, [3]int{33, api.Extended, 1}, api.OK}, furtherAct{before, [3]int{34, api.Extended, 1}, api.ErrLate},
			furtherAct{before, [3]int{33, api.Remedied}, api.OK}, furtherAct{before, [3]int{34, api.Remedied}, api.ErrLate},
			furtherAct{before, [3]int{12, api.Objection}, api.OK}, furtherAct{before, [3]int{13, api.Objection}, api.ErrLate},
			furtherAct{before, [3]int{34, api.Objection}, api.ErrLate}, furtherAct{before, [3]int{200000, api.Returned}, api.ErrLate},
			furtherAct{before, [3]int{34, api.Extended, 31}, api.ErrRange}, furtherAct{before, [3]int{34, api.Upheld}, api.ErrState},
		)
	}
	for _, day := range []int{34, 199000, 200000} {
		l = append(l,
			furtherAct{returned, [3]int{day, api.Remedied}, api.OK}, furtherAct{contested, [3]int{day, api.Remedied}, api.OK},
			furtherAct{contested, [3]int{day, api.Upheld}, api.OK},
		)
	}
	l = append(l, furtherAct{returned, [3]int{199000, api.Published}, api.OK}, furtherAct{contested, [3]int{199000, api.Dismissed}, api.OK})
	checkActs(t, procedure(), 0, l)
}

// P8.4: objections up to the lesser one of both days, also if the deadline is the lesser one,
// or has moved.
func TestLateObjections(t *testing.T) {
	p := change(procedure(), func(p *api.Procedure) { p.Runs, p.Object = api.Period{Days: 5}, api.Period{Days: 20} })
	served := [][3]int{{0, api.Served}}
	extended := with(served, [3]int{5, api.Extended, 2})
	further := with(served, [3]int{5, api.Extended, 30})
	checkActs(t, p, 0, []furtherAct{
		{served, [3]int{5, api.Objection}, api.OK}, {served, [3]int{6, api.Objection}, api.ErrLate},
		{extended, [3]int{7, api.Objection}, api.OK}, {extended, [3]int{8, api.Objection}, api.ErrLate},
		{further, [3]int{20, api.Objection}, api.OK}, {further, [3]int{21, api.Objection}, api.ErrLate},
		{further, [3]int{35, api.Returned}, api.OK}, {further, [3]int{36, api.Returned}, api.ErrLate},
	})
	same := change(p, func(p *api.Procedure) { p.Object = api.Period{Days: 5} })
	checkActs(t, same, 0, []furtherAct{{served, [3]int{5, api.Objection}, api.OK}, {served, [3]int{6, api.Objection}, api.ErrLate}})
}

// P8.4: as many extensions as allowed; those that were used stay used when a notice begins
// anew; a late one is late first.
func TestFullExtensions(t *testing.T) {
	served, extended := [3]int{0, api.Served}, [3]int{0, api.Extended, 1}
	for allowed := range 13 {
		p := change(procedure(), func(p *api.Procedure) { p.Extensions = allowed })
		before := [][3]int{served}
		for range allowed {
			checkActs(t, p, 0, []furtherAct{{before, extended, api.OK}})
			before = append(before, extended)
		}
		checkActs(t, p, 0, []furtherAct{
			{before, extended, api.ErrFull}, {before, [3]int{30, api.Extended, 1}, api.ErrFull}, {before, [3]int{90, api.Extended, 1}, api.ErrLate},
			{before, [3]int{0, api.Extended, 31}, api.ErrRange},
			{with(before, [3]int{0, api.Returned}, [3]int{1, api.Published}), [3]int{1, api.Extended, 1}, api.ErrFull},
			{with(before, [3]int{0, api.Objection}, [3]int{1, api.Dismissed}), [3]int{1, api.Extended, 1}, api.ErrFull},
			{with(before, [3]int{0, api.Returned}), [3]int{1, api.Extended, 1}, api.ErrState},
		})
	}
}

// P8.4: deadlines that are no days. The last working day of all is 199999, a Friday.
func TestDeadlinesThatAreNoDays(t *testing.T) {
	days := func(runs, object int) api.Procedure {
		return change(procedure(), func(p *api.Procedure) { p.Runs, p.Object = api.Period{Days: runs}, api.Period{Days: object} })
	}
	months := change(days(0, 0), func(p *api.Procedure) { p.Object = api.Period{Months: 1} })
	working := change(days(0, 0), func(p *api.Procedure) { p.Runs = api.Period{Days: 2, Working: true} })
	serve, publish := [3]int{199990, api.Served}, [3]int{199998, api.Published}
	returned := [][3]int{serve, {199990, api.Returned}}
	for _, c := range []struct {
		p       api.Procedure
		serve   api.Errno
		publish api.Errno
	}{
		{days(9, 9), api.OK, api.ErrRange}, {days(1, 1), api.OK, api.OK}, {days(2, 1), api.OK, api.ErrRange}, {days(1, 2), api.OK, api.ErrRange},
		{days(10, 9), api.ErrRange, api.OK}, {days(9, 10), api.ErrRange, api.OK}, {days(11, 1), api.ErrRange, api.OK},
		{days(36500, 0), api.ErrRange, api.OK}, {months, api.ErrRange, api.OK}, {working, api.OK, api.ErrRange},
	} {
		checkActs(t, c.p, 199990, []furtherAct{{nil, serve, c.serve}})
		if c.serve == api.OK {
			checkActs(t, c.p, 199990, []furtherAct{{returned, publish, c.publish}})
		}
	}
	p := days(5, 5)
	running := [][3]int{serve}
	contested := with(running, [3]int{199991, api.Objection})
	checkActs(t, p, 199990, []furtherAct{
		{running, [3]int{199991, api.Extended, 4}, api.OK}, {running, [3]int{199991, api.Extended, 5}, api.ErrRange}, {running, [3]int{199991, api.Extended, 30}, api.ErrRange},
		{contested, [3]int{199995, api.Dismissed}, api.OK}, {contested, [3]int{199996, api.Dismissed}, api.ErrRange}, {contested, [3]int{200000, api.Dismissed}, api.ErrRange},
		{contested, [3]int{200000, api.Upheld}, api.OK},
	})
	// The deadline of objections need not be a day again when the deadline moves.
	checkActs(t, days(0, 9), 199990, []furtherAct{{[][3]int{serve}, [3]int{199990, api.Extended, 8}, api.OK}})
}

// P8.4: the first act with an error decides, whatever follows.
func TestFirstWrongAct(t *testing.T) {
	right := longNotice(40).Acts
	for i := range right {
		n := opened(0)
		n.Acts = slices.Clone(right)
		n.Acts[i].Kind = api.Upheld
		got, e := notice.CheckNotice(procedure(), n)
		if got != i || e != api.ErrState {
			t.Error(i, got, e)
		}
	}
}
