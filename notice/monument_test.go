package notice_test

import (
	"strconv"
	"testing"

	"mortsafe/api"
	"mortsafe/notice"
)

// wrong is a value with an error, told by how it differs from a right one.
type wrong[T any] struct {
	how  func(*T)
	want api.Errno
}

// P8.1: gradings are right up to the ends of all ranges.
func TestRightGradings(t *testing.T) {
	for i, how := range []func(*api.Grading){
		func(g *api.Grading) {},
		func(g *api.Grading) { *g = api.Grading{} },
		func(g *api.Grading) { g.Tilt = [3]int{0, 0, 1000} },
		func(g *api.Grading) { g.Tilt = [3]int{1000, 1000, 1000} },
		func(g *api.Grading) { g.Push = [3]int{5000, 0, 0} },
		func(g *api.Grading) { g.Push = [3]int{5000, 5000, 5000} },
		func(g *api.Grading) { g.Months = [4]int{240, 240, 240, 240} },
		func(g *api.Grading) { g.Months = [4]int{240, 0, 0, 0} },
	} {
		if e := notice.CheckGrading(change(grading(), how)); e != api.OK {
			t.Error(i, e)
		}
	}
}

func wrongGradings() []wrong[api.Grading] {
	l := []wrong[api.Grading]{
		{func(g *api.Grading) { g.Tilt[2] = 1001 }, api.ErrRange},
		{func(g *api.Grading) { g.Push[0] = 5001 }, api.ErrRange},
		{func(g *api.Grading) { g.Months[0] = 241 }, api.ErrRange},
		{func(g *api.Grading) { g.Tilt, g.Months[3] = [3]int{3, 2, 1}, 241 }, api.ErrRange},
		{func(g *api.Grading) { g.Push, g.Months[3] = [3]int{1, 2, 3}, -1 }, api.ErrRange},
		{func(g *api.Grading) { g.Tilt = [3]int{51, 50, 60} }, api.ErrOrder},
		{func(g *api.Grading) { g.Tilt = [3]int{50, 61, 60} }, api.ErrOrder},
		{func(g *api.Grading) { g.Tilt = [3]int{1000, 1000, 0} }, api.ErrOrder},
		{func(g *api.Grading) { g.Push = [3]int{50, 51, 50} }, api.ErrOrder},
		{func(g *api.Grading) { g.Push = [3]int{50, 50, 51} }, api.ErrOrder},
		{func(g *api.Grading) { g.Push = [3]int{0, 0, 5000} }, api.ErrOrder},
		{func(g *api.Grading) { g.Months = [4]int{50, 51, 50, 50} }, api.ErrOrder},
		{func(g *api.Grading) { g.Months = [4]int{50, 50, 51, 50} }, api.ErrOrder},
		{func(g *api.Grading) { g.Months = [4]int{50, 50, 50, 51} }, api.ErrOrder},
		{func(g *api.Grading) { g.Months = [4]int{0, 0, 0, 240} }, api.ErrOrder},
	}
	for _, n := range extremes {
		for i := range 3 {
			l = append(l,
				wrong[api.Grading]{func(g *api.Grading) { g.Tilt[i] = n }, api.ErrRange},
				wrong[api.Grading]{func(g *api.Grading) { g.Push[i] = n }, api.ErrRange},
				wrong[api.Grading]{func(g *api.Grading) { g.Months[i] = n }, api.ErrRange},
			)
		}
		l = append(l, wrong[api.Grading]{func(g *api.Grading) { g.Months[3] = n }, api.ErrRange})
	}
	return l
}

// P8.1: the errors of gradings, which all functions tell that have one, before those of the
// other arguments.
func TestWrongGradings(t *testing.T) {
	for _, c := range wrongGradings() {
		checkAll(t, "a wrong grading", allOfGradings(), change(grading(), c.how), c.want)
	}
}

// P8.1: the grade is the greatest one whose tilt is reached, or whose push is not exceeded.
func TestGradeOf(t *testing.T) {
	for _, c := range [][3]int{
		{0, 5000, 0}, {49, 301, 0}, {50, 301, 1}, {49, 300, 1}, {99, 201, 1}, {100, 201, 2}, {99, 200, 2}, {199, 101, 2},
		{200, 101, 3}, {199, 100, 3}, {1000, 5000, 3}, {0, 0, 3}, {0, 100, 3}, {0, 101, 2}, {0, 201, 1}, {1000, 0, 3}, {50, 200, 2}, {100, 300, 2},
	} {
		n, e := notice.GradeOf(grading(), api.Visit{Day: 7, Tilt: c[0], Push: c[1]})
		check(t, "GradeOf", n, e, c[2])
	}
	same := api.Grading{Tilt: [3]int{70, 70, 80}, Push: [3]int{9, 5, 5}}
	for _, c := range [][3]int{{69, 10, 0}, {70, 10, 2}, {80, 10, 3}, {69, 9, 1}, {69, 6, 1}, {69, 5, 3}, {70, 6, 2}} {
		n, e := notice.GradeOf(same, api.Visit{Tilt: c[0], Push: c[1]})
		check(t, "GradeOf by the same numbers", n, e, c[2])
	}
	n, e := notice.GradeOf(api.Grading{}, api.Visit{Push: 5000})
	check(t, "GradeOf by zeros", n, e, 3)
}

// rightVisits are visits at the ends of all ranges.
func rightVisits() []api.Visit {
	return []api.Visit{{}, {Day: 200000, Tilt: 1000, Push: 5000}, {Day: 200000, Kind: 1}, {Kind: 1}, {Kind: 2}, {Day: 200000, Kind: 2}, {Tilt: 1000}, {Push: 5000}}
}

// wrongVisits are visits with their errors.
func wrongVisits() map[api.Visit]api.Errno {
	l := map[api.Visit]api.Errno{
		{Day: 200001}:                      api.ErrRange,
		{Kind: 3}:                          api.ErrRange,
		{Tilt: 1001}:                       api.ErrRange,
		{Push: 5001}:                       api.ErrRange,
		{Kind: 1, Tilt: 1001}:              api.ErrRange,
		{Kind: 2, Push: 5001}:              api.ErrRange,
		{Day: 200001, Kind: 1, Tilt: 1}:    api.ErrRange,
		{Kind: 3, Tilt: 5, Push: 5}:        api.ErrRange,
		{Kind: 1, Tilt: 1}:                 api.ErrForm,
		{Kind: 1, Push: 1}:                 api.ErrForm,
		{Kind: 2, Tilt: 1}:                 api.ErrForm,
		{Kind: 2, Push: 5000}:              api.ErrForm,
		{Kind: 2, Tilt: 1000, Day: 200000}: api.ErrForm,
	}
	for _, n := range extremes {
		l[api.Visit{Day: n}], l[api.Visit{Kind: n}] = api.ErrRange, api.ErrRange
		l[api.Visit{Tilt: n}], l[api.Visit{Push: n}] = api.ErrRange, api.ErrRange
	}
	return l
}

// P8.1, P8.2: the errors of visits; only inspections have grades of their own.
func TestVisits(t *testing.T) {
	for _, v := range rightVisits() {
		_, e := notice.GradeOf(grading(), v)
		if want := []api.Errno{api.OK, api.ErrKind, api.ErrKind}[v.Kind]; e != want {
			t.Error(v, e, want)
		}
		if e := notice.CheckMonument(monument("m", v)); e != api.OK {
			t.Error(v, e)
		}
	}
	for v, want := range wrongVisits() {
		n, e := notice.GradeOf(grading(), v)
		checkError(t, "GradeOf", []any{n}, e, want)
		checkAll(t, "a wrong visit", allOfMonuments(), monument("m", api.Visit{}, v, api.Visit{Day: -1, Kind: 1, Tilt: 1}), want)
	}
	for _, v := range []api.Visit{repaired(5), laidDown(5)} {
		n, e := notice.GradeOf(grading(), v)
		checkError(t, "GradeOf without an inspection", []any{n}, e, api.ErrKind)
	}
}

// P8.2: monuments are right with any name, up to the ends of all ranges.
func TestRightMonuments(t *testing.T) {
	for _, name := range rightNames {
		for _, m := range []api.Monument{{Name: name, Place: "p"}, {Name: "m", Place: name}, {Name: name, Place: name}} {
			if e := notice.CheckMonument(m); e != api.OK {
				t.Error(m, e)
			}
		}
	}
	for _, m := range []api.Monument{
		monument("m", make([]api.Visit, 40)...),
		monument("m", graded(5, 1), graded(5, 2), repaired(5), laidDown(5), graded(6, 0)),
		monument("m", graded(0, 1), laidDown(200000)),
	} {
		if e := notice.CheckMonument(m); e != api.OK {
			t.Error(m, e)
		}
	}
}

// P8.2: the errors of monuments, before those of the other arguments.
func TestWrongMonuments(t *testing.T) {
	l := []wrong[api.Monument]{
		{func(m *api.Monument) { m.Visits = make([]api.Visit, 41) }, api.ErrLarge},
		{func(m *api.Monument) { m.Visits = with([]api.Visit{{Day: -1}}, make([]api.Visit, 40)...) }, api.ErrLarge},
		{func(m *api.Monument) { m.Visits = []api.Visit{repaired(5), repaired(4)} }, api.ErrOrder},
		{func(m *api.Monument) { m.Visits = []api.Visit{repaired(0), repaired(5), repaired(4), {Day: -1}} }, api.ErrOrder},
		{func(m *api.Monument) { m.Visits = []api.Visit{repaired(5), {Day: 4, Kind: 1, Push: 1}, {Day: -1}} }, api.ErrForm},
		{func(m *api.Monument) { m.Visits = []api.Visit{repaired(5), {Day: 4, Kind: 3}} }, api.ErrRange},
		{func(m *api.Monument) { m.Visits = []api.Visit{repaired(5), {Day: -1}} }, api.ErrRange},
		{func(m *api.Monument) { m.Visits = with(make([]api.Visit, 39), api.Visit{Kind: 1, Tilt: 1}) }, api.ErrForm},
	}
	for _, name := range wrongNames {
		l = append(l,
			wrong[api.Monument]{func(m *api.Monument) { m.Name = name }, api.ErrName},
			wrong[api.Monument]{func(m *api.Monument) { m.Place = name }, api.ErrName},
			wrong[api.Monument]{func(m *api.Monument) { m.Name, m.Visits = name, make([]api.Visit, 41) }, api.ErrName},
		)
	}
	for _, c := range l {
		checkAll(t, "a wrong monument", allOfMonuments(), change(monument("x"), c.how), c.want)
	}
}

// P8.2: grades and next visits by the visits up to a day: also those on the day, and of several
// on one day the last one.
func TestMonumentOnDays(t *testing.T) {
	m := monument("m", graded(10, 1), graded(20, 3), graded(30, 2), repaired(30), laidDown(40), graded(50, 3), graded(50, 1))
	for _, c := range []struct {
		day, grade, next int
		wrong            api.Errno
	}{
		{10, 1, 740, api.OK}, {19, 1, 740, api.OK}, {20, 3, 20, api.OK}, {29, 3, 20, api.OK},
		{30, 0, 30 + 5*365 + 1, api.OK}, {39, 0, 30 + 5*365 + 1, api.OK}, {40, 0, 0, api.ErrState}, {49, 0, 0, api.ErrState},
		{50, 1, 50 + 2*365, api.OK}, {200000, 1, 50 + 2*365, api.OK},
	} {
		n, e := notice.GradeAt(grading(), m, c.day)
		check(t, "GradeAt on "+strconv.Itoa(c.day), n, e, c.grade)
		n, e = notice.NextVisit(grading(), m, c.day)
		checkAnswer(t, "NextVisit on "+strconv.Itoa(c.day), n, e, c.next, c.wrong)
	}
	for _, day := range []int{0, 9} {
		n, e := notice.GradeAt(grading(), m, day)
		checkError(t, "GradeAt before all visits", []any{n}, e, api.ErrMissing)
		n, e = notice.NextVisit(grading(), m, day)
		checkError(t, "NextVisit before all visits", []any{n}, e, api.ErrMissing)
	}
	for _, day := range noDays {
		for _, m := range []api.Monument{m, monument("none")} {
			n, e := notice.GradeAt(grading(), m, day)
			checkError(t, "GradeAt on no day", []any{n}, e, api.ErrRange)
			n, e = notice.NextVisit(grading(), m, day)
			checkError(t, "NextVisit on no day", []any{n}, e, api.ErrRange)
		}
	}
}

// P8.2: months are those of chapter 2: 31 August and six months are the last day of February.
// Day 200000 is 2 August 2347.
func TestNextVisit(t *testing.T) {
	for _, c := range []struct {
		months, day, want int
		wrong             api.Errno
	}{
		{0, 77, 77, api.OK}, {1, 30, 58, api.OK}, {6, 242, 365 + 58, api.OK}, {240, 0, 7304, api.OK},
		{0, 200000, 200000, api.OK}, {1, 199968, 199999, api.OK}, {1, 199969, 200000, api.OK}, {1, 199970, 0, api.ErrRange},
		{1, 200000, 0, api.ErrRange}, {240, 195000, 0, api.ErrRange},
	} {
		g := api.Grading{Tilt: [3]int{1, 1, 1}, Months: [4]int{c.months}}
		n, e := notice.NextVisit(g, monument("m", repaired(c.day)), 200000)
		checkAnswer(t, "NextVisit behind "+strconv.Itoa(c.day), n, e, c.want, c.wrong)
		n, e = notice.GradeAt(g, monument("m", repaired(c.day)), 200000)
		check(t, "GradeAt", n, e, 0)
	}
}
