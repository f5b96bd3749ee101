package notice_test

import (
	"strconv"
	"testing"

	"mortsafe/api"
	"mortsafe/notice"
)

// answers are what the questions about a notice say on a day; a negative deadline is none.
type answers struct{ day, phase, deadline, object int }

func checkAnswers(t *testing.T, p api.Procedure, n api.Notice, l []answers) {
	t.Helper()
	for _, c := range l {
		what := " on " + strconv.Itoa(c.day)
		got, e := notice.Phase(p, n, c.day)
		check(t, "Phase"+what, got, e, c.phase)
		wrong := api.OK
		if c.deadline < 0 {
			wrong = api.ErrNone
		}
		got, e = notice.DeadlineAt(p, n, c.day)
		checkAnswer(t, "DeadlineAt"+what, got, e, c.deadline, wrong)
		got, e = notice.ObjectUntil(p, n, c.day)
		checkAnswer(t, "ObjectUntil"+what, got, e, c.object, wrong)
	}
}

// P8.5: a notice through all its phases, of which the acts up to a day count.
func TestOnDays(t *testing.T) {
	checkAnswers(t, procedure(), opened(5,
		[3]int{10, api.Served}, [3]int{20, api.Returned}, [3]int{30, api.Published}, [3]int{40, api.Objection}, [3]int{50, api.Dismissed},
		[3]int{60, api.Extended, 9}, [3]int{77, api.Returned}, [3]int{90, api.Published}, [3]int{100, api.Objection}, [3]int{300, api.Upheld},
	), []answers{
		{5, 0, -1, -1}, {9, 0, -1, -1}, {10, 1, 41, 20}, {19, 1, 41, 20}, {20, 2, -1, -1}, {29, 2, -1, -1}, {30, 1, 58, 40}, {39, 1, 58, 40},
		{40, 3, -1, -1}, {49, 3, -1, -1}, {50, 1, 68, 40}, {59, 1, 68, 40}, {60, 1, 77, 40}, {76, 1, 77, 40}, {77, 2, -1, -1}, {89, 2, -1, -1},
		{90, 1, 120, 100}, {99, 1, 120, 100}, {100, 3, -1, -1}, {299, 3, -1, -1}, {300, 5, -1, -1}, {200000, 5, -1, -1},
	})
}

// P8.5: a notice expires behind its deadline, and tells its deadlines then, too.
func TestExpired(t *testing.T) {
	p := change(procedure(), func(p *api.Procedure) { p.Wait = api.Period{Days: 100} })
	served, contested := [3]int{0, api.Served}, [3]int{12, api.Objection}
	running := []answers{{0, 1, 33, 12}, {12, 1, 33, 12}, {33, 1, 33, 12}, {34, 6, 33, 12}, {200000, 6, 33, 12}}
	checkAnswers(t, p, opened(0, served), running)
	checkAnswers(t, p, opened(0, served, contested, [3]int{20, api.Dismissed}), []answers{
		{11, 1, 33, 12}, {12, 3, -1, -1}, {19, 3, -1, -1}, {20, 1, 41, 12}, {34, 1, 41, 12}, {41, 1, 41, 12}, {42, 6, 41, 12}, {200000, 6, 41, 12},
	})
	checkAnswers(t, p, opened(0, served, contested, [3]int{199000, api.Dismissed}), []answers{{199000, 1, 199022, 12}, {199022, 1, 199022, 12}, {199023, 6, 199022, 12}})
	checkAnswers(t, p, opened(0, served, [3]int{33, api.Returned}), []answers{{33, 2, -1, -1}, {34, 2, -1, -1}, {200000, 2, -1, -1}})
	checkAnswers(t, p, opened(0, served, contested), []answers{{33, 3, -1, -1}, {34, 3, -1, -1}, {200000, 3, -1, -1}})
	checkAnswers(t, p, opened(0, served, contested, [3]int{90, api.Upheld}), []answers{{89, 3, -1, -1}, {90, 5, -1, -1}, {200000, 5, -1, -1}})
	checkAnswers(t, p, opened(0, served, contested, [3]int{90, api.Remedied}), []answers{{89, 3, -1, -1}, {90, 4, -1, -1}, {200000, 4, -1, -1}})
	checkAnswers(t, p, opened(0), []answers{{0, 0, -1, -1}, {200000, 0, -1, -1}})
	checkAnswers(t, p, opened(200000), []answers{{200000, 0, -1, -1}})
}

// P8.5: deadlines move from where they are, by days or to the next working day; a published
// notice begins anew, with other days for objections.
func TestMovedDeadlines(t *testing.T) {
	p := change(procedure(), func(p *api.Procedure) {
		p.Runs, p.Object, p.Extensions = api.Period{Days: 10, Working: true}, api.Period{Days: 100}, 9
		p.Holidays = newYear()
	})
	n := opened(0,
		[3]int{0, api.Served}, [3]int{1, api.Extended, 1}, [3]int{2, api.Extended, 2}, [3]int{3, api.Extended, 3},
		[3]int{4, api.Objection}, [3]int{4, api.Dismissed}, [3]int{5, api.Objection}, [3]int{6, api.Dismissed},
		[3]int{7, api.Objection}, [3]int{9, api.Dismissed}, [3]int{9, api.Returned}, [3]int{300, api.Published}, [3]int{310, api.Extended, 30},
	)
	checkAnswers(t, p, n, []answers{
		{0, 1, 15, 15}, {1, 1, 16, 16}, {2, 1, 19, 19}, {3, 1, 22, 22}, {4, 1, 22, 22}, {5, 3, -1, -1}, {6, 1, 23, 23},
		{8, 3, -1, -1}, {9, 2, -1, -1}, {300, 1, 314, 314}, {310, 1, 344, 344}, {344, 1, 344, 344}, {345, 6, 344, 344},
	})
	checkAnswers(t, p, opened(0, triples(n)[:10]...), []answers{{9, 1, 26, 26}, {26, 1, 26, 26}, {27, 6, 26, 26}})
	// Day 365 is 1 January, and day 369 a Monday: the first one of the year.
	checkAnswers(t, p, opened(350, [3]int{350, api.Served}, [3]int{350, api.Extended, 1}, [3]int{351, api.Extended, 3}), []answers{
		{350, 1, 366, 366}, {351, 1, 370, 370},
	})
}

// P8.5: the errors of a day, and days before a notice was opened.
func TestWrongDays(t *testing.T) {
	n := opened(50, [3]int{60, api.Served})
	for _, ask := range []func(api.Procedure, api.Notice, int) (int, api.Errno){notice.Phase, notice.DeadlineAt, notice.ObjectUntil} {
		for _, day := range noDays {
			got, e := ask(procedure(), n, day)
			checkError(t, "a question on no day", []any{got}, e, api.ErrRange)
		}
		for _, day := range []int{0, 49} {
			got, e := ask(procedure(), n, day)
			checkError(t, "a question before", []any{got}, e, api.ErrEarly)
		}
	}
	for _, day := range noDays {
		got, e := notice.May(procedure(), n, day)
		checkError(t, "May on no day", []any{got}, e, api.ErrRange)
	}
	got, e := notice.May(procedure(), n, 49)
	check(t, "May before", got, e, []int{})
}

// P8.6: what Add returns, and that a notice has no more than 40 acts.
func TestAdd(t *testing.T) {
	n := api.Notice{Name: "x", Opened: 3}
	got, e := notice.Add(procedure(), n, api.NoticeAct{Day: 4})
	check(t, "Add", got, e, api.Notice{Name: "x", Opened: 3, Acts: []api.NoticeAct{{Day: 4}}})
	full := longNotice(40)
	got, e = notice.Add(procedure(), longNotice(39), api.NoticeAct{Kind: api.Published})
	checkError(t, "Add of a wrong act", []any{got}, e, api.ErrState)
	got, e = notice.Add(procedure(), longNotice(39), full.Acts[39])
	check(t, "Add of the last act", got, e, full)
	for _, a := range []api.NoticeAct{{Kind: api.Published}, {Kind: api.Remedied}, {Day: -1}, {Kind: 8}} {
		got, e = notice.Add(procedure(), full, a)
		checkError(t, "Add of one more", []any{got}, e, api.ErrLarge)
	}
	for _, day := range []int{0, 5} {
		may, e := notice.May(procedure(), full, day)
		check(t, "May behind 40 acts", may, e, []int{})
		may, e = notice.May(procedure(), longNotice(39), day)
		check(t, "May behind 39 acts", may, e, []int{api.Returned, api.Objection, api.Extended, api.Remedied})
	}
}

// P8.6: which acts may come on a day.
func TestMay(t *testing.T) {
	served := [3]int{10, api.Served}
	contested := [3]int{20, api.Objection}
	none := change(procedure(), func(p *api.Procedure) { p.Extensions = 0 })
	short := change(procedure(), func(p *api.Procedure) { p.Longest = 0 })
	for _, c := range []struct {
		p    api.Procedure
		n    api.Notice
		day  int
		want []int
	}{
		{procedure(), opened(10), 9, nil}, {procedure(), opened(10), 10, []int{0}}, {procedure(), opened(10), 199960, []int{0}},
		{procedure(), opened(10), 199970, nil}, {procedure(), opened(10), 200000, nil},
		{procedure(), opened(10, served), 9, nil}, {procedure(), opened(10, served), 10, []int{1, 3, 6, 7}},
		{procedure(), opened(10, served), 20, []int{1, 3, 6, 7}}, {procedure(), opened(10, served), 21, []int{1, 6, 7}},
		{procedure(), opened(10, served), 41, []int{1, 6, 7}}, {procedure(), opened(10, served), 42, nil}, {procedure(), opened(10, served), 200000, nil},
		{none, opened(10, served), 20, []int{1, 3, 7}}, {short, opened(10, served), 20, []int{1, 3, 7}},
		{procedure(), opened(10, served, [3]int{15, api.Extended, 1}), 20, []int{1, 3, 7}},
		{procedure(), opened(10, served, contested), 19, nil}, {procedure(), opened(10, served, contested), 20, []int{4, 5, 7}},
		{procedure(), opened(10, served, contested), 200000, []int{5, 7}},
		{procedure(), opened(10, served, [3]int{20, api.Returned}), 20, []int{2, 7}}, {procedure(), opened(10, served, [3]int{20, api.Returned}), 200000, []int{7}},
		{procedure(), opened(10, served, [3]int{20, api.Remedied}), 20, nil}, {procedure(), opened(10, served, contested, [3]int{20, api.Upheld}), 20, nil},
	} {
		got, e := notice.May(c.p, c.n, c.day)
		check(t, "May on "+strconv.Itoa(c.day), got, e, c.want)
	}
	// An extension by a day is told by itself: from 199999 on there is no later deadline.
	p := change(procedure(), func(p *api.Procedure) { p.Runs, p.Object = api.Period{}, api.Period{} })
	got, e := notice.May(p, opened(199999, [3]int{199999, api.Served}), 199999)
	check(t, "May on the last working day", got, e, []int{1, 3, 7})
	got, e = notice.May(p, opened(199998, [3]int{199998, api.Served}), 199998)
	check(t, "May on the day before", got, e, []int{1, 3, 6, 7})
}

// P8.6: from when on a notice may be acted on.
func TestExpiresAt(t *testing.T) {
	served, contested := [3]int{0, api.Served}, [3]int{12, api.Objection}
	wait := func(w api.Period) api.Procedure {
		return change(procedure(), func(p *api.Procedure) { p.Wait, p.Holidays = w, newYear() })
	}
	late := change(wait(api.Period{}), func(p *api.Procedure) { p.Runs, p.Object = api.Period{Days: 9}, api.Period{} })
	for _, c := range []struct {
		p     api.Procedure
		n     api.Notice
		want  int
		wrong api.Errno
	}{
		{wait(api.Period{}), opened(0, served), 34, api.OK},
		{wait(api.Period{Days: 1}), opened(0, served), 35, api.OK},
		{wait(api.Period{Days: 5}), opened(0, served), 41, api.OK},
		{wait(api.Period{Days: 5, Working: true}), opened(0, served), 41, api.OK},
		{wait(api.Period{Months: 1}), opened(0, served), 62, api.OK},
		{wait(api.Period{Months: 11}), opened(0, served), 371, api.OK},
		{wait(api.Period{Days: 332}), opened(0, served), 367, api.OK},
		{wait(api.Period{}), opened(0, served, contested, [3]int{20, api.Dismissed}), 42, api.OK},
		{wait(api.Period{}), opened(0, served, [3]int{20, api.Extended, 4}), 38, api.OK},
		{wait(api.Period{}), opened(0, served, [3]int{20, api.Returned}, [3]int{30, api.Published}), 59, api.OK},
		{wait(api.Period{}), opened(0), 0, api.ErrState},
		{wait(api.Period{}), opened(0, served, [3]int{20, api.Returned}), 0, api.ErrState},
		{wait(api.Period{}), opened(0, served, contested), 0, api.ErrState},
		{wait(api.Period{}), opened(0, served, contested, [3]int{20, api.Upheld}), 0, api.ErrState},
		{wait(api.Period{}), opened(0, served, [3]int{20, api.Remedied}), 0, api.ErrState},
		{late, opened(199990, [3]int{199990, api.Served}), 200000, api.OK},
		{change(late, func(p *api.Procedure) { p.Wait.Days = 1 }), opened(199990, [3]int{199990, api.Served}), 0, api.ErrRange},
		{change(late, func(p *api.Procedure) { p.Wait.Months = 1 }), opened(199990, [3]int{199990, api.Served}), 0, api.ErrRange},
		{wait(api.Period{Months: 1200, Days: 36500}), opened(150000, [3]int{150000, api.Served}), 0, api.ErrRange},
	} {
		got, e := notice.ExpiresAt(c.p, c.n)
		checkAnswer(t, "ExpiresAt", got, e, c.want, c.wrong)
	}
}

// dueNotices are notices with different deadlines: 0 none, 1 to 3, 6 and 8 on 40, 41, 40, 42 and 41.
func dueNotices() []api.Notice {
	p := notices(9)
	for i, l := range [][][3]int{
		{}, {{9, api.Served}}, {{10, api.Served}}, {{9, api.Served}}, {{9, api.Served}, {10, api.Returned}}, {{9, api.Served}, {9, api.Objection}},
		{{11, api.Served}}, {{9, api.Served}, {9, api.Remedied}}, {{9, api.Served}, {10, api.Extended, 1}},
	} {
		p[i].Acts = opened(0, l...).Acts
	}
	return p
}

// P8.6: which notices have their deadlines from a day up to another one.
func TestDue(t *testing.T) {
	for _, c := range []struct {
		between [2]int
		want    []int
	}{
		{[2]int{0, 200000}, []int{1, 3, 2, 8, 6}}, {[2]int{40, 42}, []int{1, 3, 2, 8, 6}}, {[2]int{0, 39}, nil}, {[2]int{43, 200000}, nil},
		{[2]int{40, 40}, []int{1, 3}}, {[2]int{41, 41}, []int{2, 8}}, {[2]int{42, 42}, []int{6}}, {[2]int{41, 42}, []int{2, 8, 6}}, {[2]int{39, 41}, []int{1, 3, 2, 8}},
	} {
		got, e := notice.Due(procedure(), dueNotices(), c.between)
		check(t, "Due", got, e, c.want)
	}
	got, e := notice.Due(procedure(), nil, [2]int{})
	check(t, "Due of none", got, e, []int{})
	got, e = notice.Due(procedure(), notices(40), [2]int{5, 5})
	check(t, "Due of the most", got, e, []int{})
}

// P8.6: the errors of Due, in their order.
func TestWrongDue(t *testing.T) {
	same := []api.Notice{opened(0), named("m", opened(0)), opened(0)}
	type row struct {
		l       []api.Notice
		between [2]int
		want    api.Errno
	}
	rows := []row{
		{notices(41), [2]int{-1, -1}, api.ErrLarge}, {make([]api.Notice, 41), [2]int{0, 1}, api.ErrLarge},
		{same, [2]int{-1, -1}, api.ErrExists}, {with(same[:2], opened(0, [3]int{0, api.Upheld})), [2]int{0, 1}, api.ErrState},
		{with(same, wrongNotice()), [2]int{0, 1}, api.ErrExists}, {with(same[:2], wrongNotice(), same[0]), [2]int{0, 1}, api.ErrName},
		{with(same[:2], opened(-1)), [2]int{0, 1}, api.ErrRange}, {with(same[:2], opened(0, make([][3]int, 41)...)), [2]int{0, 1}, api.ErrLarge},
		{same[:1], [2]int{6, 5}, api.ErrOrder}, {nil, [2]int{200000, 0}, api.ErrOrder}, {with(notices(39), named("n38", opened(0))), [2]int{0, 0}, api.ErrExists},
	}
	for _, day := range noDays {
		rows = append(rows, row{same[:1], [2]int{day, 0}, api.ErrRange}, row{nil, [2]int{5, day}, api.ErrRange})
	}
	for _, c := range rows {
		got, e := notice.Due(procedure(), c.l, c.between)
		checkError(t, "Due", []any{got}, e, c.want)
	}
}
