package notice_test

import (
	"math/rand"
	"slices"
	"strconv"
	"testing"

	"mortsafe/api"
	"mortsafe/notice"
)

// The examples of the chapter.
func TestExamples(t *testing.T) {
	for _, c := range [][3]int{{120, 350, 2}, {10, 90, 3}, {10, 301, 0}} {
		n, e := notice.GradeOf(grading(), api.Visit{Tilt: c[0], Push: c[1]})
		check(t, "example 1", n, e, c[2])
	}
	day, e := notice.NextVisit(grading(), monument("m", graded(0, 1)), 0)
	check(t, "example 2", day, e, 730)
	n := opened(0, [3]int{0, api.Served})
	day, e = notice.DeadlineAt(procedure(), n, 0)
	check(t, "example 3: the deadline", day, e, 33)
	day, e = notice.ObjectUntil(procedure(), n, 0)
	check(t, "example 3: objections", day, e, 12)
	for _, c := range [][4]int{{12, api.Objection, 0, -1}, {20, api.Dismissed, 0, 41}, {41, api.Extended, 4, 47}} {
		if n, e = notice.Add(procedure(), n, api.NoticeAct{Day: c[0], Kind: c[1], Days: c[2]}); e != api.OK {
			t.Fatal(c, e)
		}
		if c[3] > 0 {
			day, e = notice.DeadlineAt(procedure(), n, c[0])
			check(t, "example 4", day, e, c[3])
		}
	}
	day, e = notice.ExpiresAt(procedure(), n)
	check(t, "example 5: the notice", day, e, 48)
	day, e = notice.Earliest(procedure(), reuse(40, 100, n))
	check(t, "example 5: the reuse", day, e, 100)
	for day, want := range map[int]int{33: 1, 34: 6} {
		phase, e := notice.Phase(procedure(), runningNotice(), day)
		check(t, "example 6", phase, e, want)
	}
	plan, e := notice.PlanRound(procedure(), []int{4, 7, 9}, [2]int{2, 2})
	check(t, "example 7", plan, e, []api.Stop{stop(4, 2), stop(7, 2), stop(9, 5)})
	text, e := notice.Print(runningNotice())
	check(t, "example 8", text, e, "notice n 0\nact 0 0 0\n")
}

// P8.1, P8.9: random grades; more tilt, or less push, never gives a lesser one.
func TestRandomGrades(t *testing.T) {
	r := rand.New(rand.NewSource(80))
	found := map[int]int{}
	for range 500 {
		g := randomGrading(r)
		grade := func(tilt, push int) int {
			v := api.Visit{Day: 5, Tilt: tilt, Push: push}
			n, e := notice.GradeOf(g, v)
			if n != modelGrade(g, v) || e != api.OK {
				t.Fatal(g, v, n, e)
			}
			return n
		}
		for tilt := range 9 {
			for push := range 9 {
				n := grade(tilt, push)
				if grade(tilt+1, push) < n || grade(tilt, push+1) > n {
					t.Fatal(g, tilt, push)
				}
				found[n]++
			}
		}
	}
	if len(found) != 4 {
		t.Error(found)
	}
}

// P8.2, P8.3, P8.9: random rounds, whose monuments are different.
func TestRandomRounds(t *testing.T) {
	r := rand.New(rand.NewSource(81))
	sizes, wrong := map[int]int{}, map[api.Errno]int{}
	for range 1500 {
		g := randomGrading(r)
		start := pickOne(r, []int{0, 5, 100})
		l := repeat(r.Intn(8), func(i int) api.Monument { return randomMonument(r, "m"+strconv.Itoa(i), start) })
		day := r.Intn(300)
		got, e := notice.Round(g, l, day)
		check(t, "Round", got, e, modelRound(g, l, day))
		if slices.Sort(got); len(slices.Compact(slices.Clone(got))) != len(got) {
			t.Error(got)
		}
		sizes[len(got)]++
		for _, m := range l {
			for _, day := range []int{day, 200000} {
				wrong[checkNextVisit(t, g, m, day)]++
			}
		}
	}
	if len(sizes) < 6 || wrong[api.OK] < 100 || wrong[api.ErrMissing] < 100 || wrong[api.ErrState] < 100 {
		t.Error(sizes, wrong)
	}
}

// checkNextVisit compares the grade and the next visit of a monument, and returns the error;
// visits behind the day do not count.
func checkNextVisit(t *testing.T, g api.Grading, m api.Monument, day int) api.Errno {
	t.Helper()
	v := modelLast(m, day)
	_, due := modelRank(g, monument("m", v), 200000)
	ungraded, undue := api.OK, api.OK
	switch {
	case v.Day < 0:
		ungraded, undue = api.ErrMissing, api.ErrMissing
	case v.Kind == 2:
		undue = api.ErrState
	}
	n, e := notice.GradeAt(g, m, day)
	checkAnswer(t, "GradeAt", n, e, modelGrade(g, v), ungraded)
	n, e = notice.NextVisit(g, m, day)
	checkAnswer(t, "NextVisit", n, e, due, undue)
	return e
}

// P8.3, P8.9: random plans; those of PlanRound are accepted, and no other one ends earlier.
func TestRandomPlans(t *testing.T) {
	r := rand.New(rand.NewSource(82))
	wrong := map[api.Errno]int{}
	for range 6000 {
		p := randomProcedure(r)
		order := r.Perm(r.Intn(7))
		at := [2]int{pickOne(r, []int{0, 3, 360, 199990}) + r.Intn(8), 1 + r.Intn(3)}
		plan, e := notice.PlanRound(p, order, at)
		want := modelPlan(p, order, at)
		if len(want) < len(order) {
			checkError(t, "PlanRound", []any{plan}, e, api.ErrRange)
			continue
		}
		check(t, "PlanRound", plan, e, want)
		end, e := notice.CheckRound(p, order, plan, at)
		if last, _ := modelCheckRound(p, order, want, at); end != last || e != api.OK {
			t.Fatal(p, order, at, plan, end, e)
		}
		for range 5 {
			l := slices.Clone(plan)
			r.Shuffle(len(l), func(i, j int) { l[i].Day, l[j].Day = l[j].Day, l[i].Day })
			for i := range l {
				if r.Intn(3) == 0 {
					l[i].Day += r.Intn(6) - 2
				}
				if r.Intn(20) == 0 {
					l[i].Monument = r.Intn(8)
				}
			}
			l = l[:len(l)-r.Intn(len(l)+1)/6]
			n, e := notice.CheckRound(p, order, l, at)
			other, want := modelCheckRound(p, order, l, at)
			checkAnswer(t, "CheckRound", n, e, other, want)
			if e == api.OK && n < end {
				t.Fatal(p, order, at, plan, l)
			}
			wrong[e]++
		}
	}
	for _, e := range []api.Errno{api.OK, api.ErrMissing, api.ErrExists, api.ErrEarly, api.ErrState, api.ErrFull, api.ErrGap} {
		if wrong[e] < 50 {
			t.Error(wrong)
		}
	}
}

// P8.4: random notices, right and wrong.
func TestRandomNotices(t *testing.T) {
	r := rand.New(rand.NewSource(83))
	found, phases := map[api.Errno]int{}, map[int]int{}
	for range 20000 {
		p := randomProcedure(r)
		n := randomNotice(r, p)
		i, e := notice.CheckNotice(p, n)
		want, wrong := modelCheck(p, n)
		if i != want || e != wrong {
			t.Fatal(p, n, i, e, want, wrong)
		}
		found[e]++
		if e == api.OK {
			phases[modelPhase(n.Acts)]++
		}
	}
	for _, e := range []api.Errno{api.OK, api.ErrRange, api.ErrKind, api.ErrForm, api.ErrOrder, api.ErrState, api.ErrLate, api.ErrFull} {
		if found[e] < 30 {
			t.Error(found)
		}
	}
	if len(phases) != 6 {
		t.Error(phases)
	}
}

// rightNotices returns random procedures with right notices.
func rightNotices(seed int64, count int) func(func(api.Procedure, api.Notice) bool) {
	return func(yield func(api.Procedure, api.Notice) bool) {
		r := rand.New(rand.NewSource(seed))
		for count > 0 {
			p := randomProcedure(r)
			n := randomNotice(r, p)
			if i, _ := modelCheck(p, n); i > 0 {
				n.Acts = n.Acts[:i]
			}
			if _, e := modelCheck(p, n); e != api.OK {
				continue
			}
			if count--; !yield(p, n) {
				return
			}
		}
	}
}

// daysAround returns the days around a notice.
func daysAround(n api.Notice) []int {
	last := n.Opened
	if len(n.Acts) > 0 {
		last = n.Acts[len(n.Acts)-1].Day
	}
	var l []int
	for day := max(0, n.Opened-2); day <= min(last+40, 200000); day++ {
		l = append(l, day)
	}
	return with(l, 200000)
}

// P8.5, P8.6: random questions on all days around notices.
func TestRandomDays(t *testing.T) {
	phases := map[int]int{}
	for p, n := range rightNotices(84, 1500) {
		for _, day := range daysAround(n) {
			if day < n.Opened {
				got, e := notice.Phase(p, n, day)
				checkError(t, "Phase", []any{got}, e, api.ErrEarly)
				continue
			}
			want := modelOn(p, n, day)
			checkAnswers(t, p, n, []answers{want})
			phases[want.phase]++
		}
		if t.Failed() {
			t.Fatal(p, n)
		}
	}
	if len(phases) != 7 {
		t.Error(phases)
	}
}

// P8.6, P8.11: May and Add accept just what CheckNotice accepts then; what is added changes no
// phase of the days before.
func TestRandomFurtherActs(t *testing.T) {
	accepted := map[int]int{}
	for p, n := range rightNotices(85, 400) {
		for _, day := range daysAround(n) {
			var want []int
			for kind := range 8 {
				a := api.NoticeAct{Day: day, Kind: kind}
				if kind == api.Extended {
					a.Days = 1
				}
				all := change(n, func(n *api.Notice) { n.Acts = with(n.Acts, a) })
				_, wrong := notice.CheckNotice(p, all)
				got, e := notice.Add(p, n, a)
				checkAnswer(t, "Add", got, e, all, wrong)
				if wrong != modelAct(p, n, n.Acts, a) {
					t.Fatal(p, n, a, wrong)
				}
				if wrong == api.OK {
					want = append(want, kind)
					accepted[kind]++
					checkSamePhases(t, p, n, all)
				}
			}
			got, e := notice.May(p, n, day)
			check(t, "May", got, e, want)
		}
		if t.Failed() {
			t.Fatal(p, n)
		}
	}
	if len(accepted) != 8 {
		t.Error(accepted)
	}
}

// checkSamePhases expects that a notice has the phases, before the day of its last act, that it
// has without this act.
func checkSamePhases(t *testing.T, p api.Procedure, n, all api.Notice) {
	for day := max(n.Opened, all.Acts[len(all.Acts)-1].Day-5); day < all.Acts[len(all.Acts)-1].Day; day++ {
		before, e := notice.Phase(p, n, day)
		got, wrong := notice.Phase(p, all, day)
		if got != before || e != api.OK || wrong != api.OK {
			t.Fatal(p, all, day, got, before)
		}
	}
}

// P8.6, P8.7, P8.10: random reuses: nothing blocks just from Earliest on.
func TestRandomReuses(t *testing.T) {
	r := rand.New(rand.NewSource(86))
	found := map[api.Errno]int{}
	for p, n := range rightNotices(87, 3000) {
		from, wrong := modelActOn(p, n)
		got, e := notice.ExpiresAt(p, n)
		checkAnswer(t, "ExpiresAt", got, e, from, wrong)
		found[e]++
		around := func() int {
			return pickOne(r, []int{-1, 0, n.Opened, min(200000, n.Opened+r.Intn(80)), 200000})
		}
		x := reuse(around(), around(), n)
		first, e := notice.Earliest(p, x)
		want := api.OK
		if x.Right < 0 || x.Rest < 0 || wrong != api.OK {
			want = api.ErrNone
		}
		checkAnswer(t, "Earliest", first, e, max(x.Right, x.Rest, from), want)
		for _, day := range with(daysAround(n), max(0, first-1), first, min(200000, first+1)) {
			l, e := notice.Blocks(p, x, day)
			check(t, "Blocks", l, e, modelBlocks(x, day, from, wrong))
			if isFree := len(l) == 0; isFree != (want == api.OK && day >= first) {
				t.Fatal(p, x, day, first, l)
			}
		}
		if t.Failed() {
			t.Fatal(p, x)
		}
	}
	if found[api.OK] < 300 || found[api.ErrState] < 300 || found[api.ErrRange] < 10 {
		t.Error(found)
	}
}

// modelBlocks is told from when on the notice may be acted on, if it may.
func modelBlocks(x api.Reuse, day, from int, wrong api.Errno) []int {
	var l []int
	for i, free := range []bool{0 <= x.Right && x.Right <= day, 0 <= x.Rest && x.Rest <= day, wrong == api.OK && from <= day} {
		if !free {
			l = append(l, i)
		}
	}
	return l
}

// P8.10: a deadline that was moved is a working day, and never earlier than before; no notice
// may be acted on that is not running.
func TestConsequences(t *testing.T) {
	moved := 0
	for p, n := range rightNotices(88, 3000) {
		_, e := notice.ExpiresAt(p, n)
		if last := modelPhase(n.Acts); last != 1 && e != api.ErrState {
			t.Fatal(p, n, e)
		}
		deadline := 0
		for i, a := range n.Acts {
			part := change(n, func(n *api.Notice) { n.Acts = n.Acts[:i+1] })
			d, e := notice.DeadlineAt(p, part, a.Day)
			if e != api.OK {
				continue
			}
			isMoved := a.Kind == api.Extended || a.Kind == api.Dismissed
			if isMoved {
				moved++
			}
			if isMoved && d < deadline || !modelIsWorking(p, d) || d < a.Day {
				t.Fatal(p, n, i, d, deadline)
			}
			deadline = d
		}
	}
	if moved < 300 {
		t.Error(moved)
	}
}

// P8.6: random lists of notices by their deadlines.
func TestRandomDue(t *testing.T) {
	r := rand.New(rand.NewSource(89))
	sizes := map[int]int{}
	for range 400 {
		p := randomProcedure(r)
		var l []api.Notice
		for i := range 12 {
			n := named("n"+strconv.Itoa(i), randomNotice(r, p))
			if _, e := modelCheck(p, n); e == api.OK {
				l = append(l, n)
			}
		}
		between := pickOne(r, [][2]int{{0, 200000}, {0, 20}, {360, 370}, {42000, 42200}, {199900, 200000}})
		var due [][2]int
		for i, n := range l {
			if c := modelOn(p, n, 200000); between[0] <= c.deadline && c.deadline <= between[1] {
				due = append(due, [2]int{c.deadline, i})
			}
		}
		slices.SortFunc(due, func(a, b [2]int) int { return slices.Compare(a[:], b[:]) })
		want := repeat(len(due), func(i int) int { return due[i][1] })
		got, e := notice.Due(p, l, between)
		check(t, "Due", got, e, want)
		sizes[len(got)]++
	}
	if len(sizes) < 5 {
		t.Error(sizes)
	}
}

// P8.8, P8.11: Parse undoes Print, and Print undoes Parse.
func TestRandomTexts(t *testing.T) {
	r := rand.New(rand.NewSource(90))
	number := func() int { return r.Intn(2000000)>>r.Intn(20) - r.Intn(2)*r.Intn(100) }
	for range 3000 {
		n := named(pickOne(r, with(rightNames, "", "-", "\xff\t")), opened(number(), repeat(r.Intn(6), func(int) [3]int {
			return [3]int{number(), number(), number()}
		})...))
		text, e := notice.Print(n)
		if e != api.OK {
			t.Fatal(n, e)
		}
		got, i, e := notice.Parse(text)
		check(t, "Parse", got, e, n)
		again, _ := notice.Print(got)
		if again != text || i != 0 {
			t.Fatal(text, again, i)
		}
	}
}
