package notice_test

import (
	"math"
	"math/rand"
	"reflect"
	"slices"
	"strconv"
	"testing"

	"mortsafe/api"
	"mortsafe/notice"
)

// extremes are numbers that no function may stumble over.
var extremes = []int{math.MinInt, math.MinInt + 1, -1, math.MaxInt - 1, math.MaxInt}

// noDays are numbers that are no days.
var noDays = with(extremes, 200001)

// wrongNames are texts that are no names.
var wrongNames = []string{"", "-", "1", "-a", "1a", "a b", " ", "a ", " a", "a\n", "a.", "a_b", "a(", "é", "aé", "a\x00", "\xff", "abcdefghijklm"}

// rightNames are names.
var rightNames = []string{"a", "Z", "ann", "a-", "a1", "A-9-z", "abcdefghijkl", "notice", "act"}

// grading is that of the chapter's examples.
func grading() api.Grading {
	return api.Grading{Tilt: [3]int{50, 100, 200}, Push: [3]int{300, 200, 100}, Months: [4]int{60, 24, 12, 0}}
}

// The tilts of inspections that give the grades from 0 to 3.
var tilts = []int{0, 50, 100, 200}

// graded is an inspection on a day that gives a grade.
func graded(day, grade int) api.Visit { return api.Visit{Day: day, Tilt: tilts[grade], Push: 400} }

func repaired(day int) api.Visit { return api.Visit{Day: day, Kind: 1} }

func laidDown(day int) api.Visit { return api.Visit{Day: day, Kind: 2} }

func monument(name string, l ...api.Visit) api.Monument {
	return api.Monument{Name: name, Place: "p", Visits: l}
}

// monuments returns monuments with other names and without visits.
func monuments(n int) []api.Monument {
	return repeat(n, func(i int) api.Monument { return monument("m" + strconv.Itoa(i)) })
}

func stop(monument, day int) api.Stop { return api.Stop{Monument: monument, Day: day} }

// procedure is that of the third example.
func procedure() api.Procedure {
	return api.Procedure{Runs: api.Period{Months: 1}, Object: api.Period{Days: 10}, Extensions: 1, Longest: 30}
}

// newYear is a calendar in which days are no working days that would be, without it: 1 January
// and the first Monday of January (days 0 and 5 of 1800).
func newYear() []api.Holiday {
	return []api.Holiday{{Name: "new", Month: 1, Day: 1}, {Name: "monday", Kind: 2, Month: 1, Day: 1}}
}

// opened is a notice with acts, told by day and kind, and the days of extensions.
func opened(day int, l ...[3]int) api.Notice {
	return api.Notice{Name: "n", Opened: day, Acts: repeat(len(l), func(i int) api.NoticeAct { return act(l[i]) })}
}

func act(a [3]int) api.NoticeAct { return api.NoticeAct{Day: a[0], Kind: a[1], Days: a[2]} }

// triples are the acts of a notice as they are told to opened.
func triples(n api.Notice) [][3]int {
	return repeat(len(n.Acts), func(i int) [3]int { return [3]int{n.Acts[i].Day, n.Acts[i].Kind, n.Acts[i].Days} })
}

// longNotice is a right notice with acts on day 0; the fewest are 1.
func longNotice(n int) api.Notice {
	return opened(0, repeat(n, func(i int) [3]int {
		if i == 0 {
			return [3]int{0, api.Served}
		}
		return [3]int{0, api.Published - i%2}
	})...)
}

// notices are right notices of other names.
func notices(n int) []api.Notice {
	return repeat(n, func(i int) api.Notice { return named("n"+strconv.Itoa(i), opened(0)) })
}

func named(name string, n api.Notice) api.Notice {
	n.Name = name
	return n
}

// change returns a value with a change.
func change[T any](x T, how func(*T)) T {
	how(&x)
	return x
}

// check compares a result, and expects no error.
func check(t *testing.T, what string, got any, e api.Errno, want any) {
	t.Helper()
	if !equal(got, want) || e != api.OK {
		t.Errorf("%s: %v %d, not %v", what, got, e, want)
	}
}

// checkError compares an error, beside which there must be no result.
func checkError(t *testing.T, what string, results []any, e, want api.Errno) {
	t.Helper()
	if e != want || slices.ContainsFunc(results, isSomething) {
		t.Errorf("%s: %v %d, not %d", what, results, e, want)
	}
}

// checkAnswer compares a result and an error.
func checkAnswer(t *testing.T, what string, got any, e api.Errno, want any, wrong api.Errno) {
	t.Helper()
	if wrong == api.OK {
		check(t, what, got, e, want)
	} else {
		checkError(t, what, []any{got}, e, wrong)
	}
}

// equal compares two values, of which nil and empty lists are the same.
func equal(a, b any) bool { return alike(reflect.ValueOf(a), reflect.ValueOf(b)) }

func alike(a, b reflect.Value) bool {
	if a.Type() != b.Type() {
		return false
	}
	switch a.Kind() {
	case reflect.Slice:
		if a.Len() != b.Len() {
			return false
		}
		for i := range a.Len() {
			if !alike(a.Index(i), b.Index(i)) {
				return false
			}
		}
		return true
	case reflect.Struct:
		for i := range a.NumField() {
			if !alike(a.Field(i), b.Field(i)) {
				return false
			}
		}
		return true
	}
	return a.Interface() == b.Interface()
}

// isSomething tells whether a result is neither a zero value nor an empty list.
func isSomething(result any) bool {
	return !equal(result, reflect.Zero(reflect.TypeOf(result)).Interface())
}

// with returns a list with something else behind it, in memory of its own.
func with[T any](l []T, further ...T) []T { return slices.Concat(l, further) }

func repeat[T any](n int, what func(i int) T) []T {
	var l []T
	for i := range n {
		l = append(l, what(i))
	}
	return l
}

// countUp returns the numbers from 0 on.
func countUp(n int) []int { return repeat(n, func(i int) int { return i }) }

func pickOne[T any](r *rand.Rand, l []T) T { return l[r.Intn(len(l))] }

// results parts what a function returned from its error.
func results(l ...any) ([]any, api.Errno) {
	return l[:len(l)-1], l[len(l)-1].(api.Errno)
}

// asked is a function of an argument. Its further arguments are wrong, so that the errors of
// the argument have to be told before theirs.
type asked[T any] struct {
	what string
	ask  func(x T) ([]any, api.Errno)
}

// checkAll expects an error of all functions.
func checkAll[T any](t *testing.T, what string, all []asked[T], x T, want api.Errno) {
	t.Helper()
	for _, f := range all {
		got, e := f.ask(x)
		checkError(t, f.what+" of "+what, got, e, want)
	}
}

// Arguments that are wrong.
func wrongVisit() api.Visit       { return api.Visit{Day: -1} }
func wrongMonument() api.Monument { return api.Monument{} }
func wrongNotice() api.Notice     { return api.Notice{} }
func wrongAct() api.NoticeAct     { return api.NoticeAct{Day: -1} }
func wrongOrder() []int           { return make([]int, 61) }
func wrongStops() []api.Stop      { return []api.Stop{stop(77, -1)} }
func wrongPair() [2]int           { return [2]int{-1, -1} }

// allOfGradings are all functions of a grading.
func allOfGradings() []asked[api.Grading] {
	return []asked[api.Grading]{
		{"CheckGrading", func(g api.Grading) ([]any, api.Errno) { return results(notice.CheckGrading(g)) }},
		{"GradeOf", func(g api.Grading) ([]any, api.Errno) { return results(notice.GradeOf(g, wrongVisit())) }},
		{"GradeAt", func(g api.Grading) ([]any, api.Errno) { return results(notice.GradeAt(g, wrongMonument(), -1)) }},
		{"NextVisit", func(g api.Grading) ([]any, api.Errno) { return results(notice.NextVisit(g, wrongMonument(), -1)) }},
		{"Round", func(g api.Grading) ([]any, api.Errno) { return results(notice.Round(g, make([]api.Monument, 61), -1)) }},
		{"Round of none", func(g api.Grading) ([]any, api.Errno) { return results(notice.Round(g, nil, 0)) }},
	}
}

// allOfMonuments are all functions of a monument.
func allOfMonuments() []asked[api.Monument] {
	return []asked[api.Monument]{
		{"CheckMonument", func(m api.Monument) ([]any, api.Errno) { return results(notice.CheckMonument(m)) }},
		{"GradeAt", func(m api.Monument) ([]any, api.Errno) { return results(notice.GradeAt(grading(), m, -1)) }},
		{"NextVisit", func(m api.Monument) ([]any, api.Errno) { return results(notice.NextVisit(grading(), m, -1)) }},
		{"Round", func(m api.Monument) ([]any, api.Errno) {
			return results(notice.Round(grading(), []api.Monument{monument("m"), m, wrongMonument()}, -1))
		}},
	}
}

// round is an order, and what is asked of a plan of it.
type round struct {
	order []int
	at    [2]int
}

// allOfRounds are all functions of an order.
func allOfRounds() []asked[round] {
	return []asked[round]{
		{"PlanRound", func(x round) ([]any, api.Errno) { return results(notice.PlanRound(procedure(), x.order, x.at)) }},
		{"CheckRound", func(x round) ([]any, api.Errno) {
			return results(notice.CheckRound(procedure(), x.order, wrongStops(), x.at))
		}},
	}
}

// allOfProcedures are all functions of a procedure.
func allOfProcedures() []asked[api.Procedure] {
	return []asked[api.Procedure]{
		{"PlanRound", func(p api.Procedure) ([]any, api.Errno) {
			return results(notice.PlanRound(p, wrongOrder(), wrongPair()))
		}},
		{"CheckRound", func(p api.Procedure) ([]any, api.Errno) {
			return results(notice.CheckRound(p, wrongOrder(), wrongStops(), wrongPair()))
		}},
		{"PlanRound of none", func(p api.Procedure) ([]any, api.Errno) { return results(notice.PlanRound(p, nil, [2]int{0, 1})) }},
		{"CheckRound of none", func(p api.Procedure) ([]any, api.Errno) {
			return results(notice.CheckRound(p, nil, nil, [2]int{0, 1}))
		}},
		{"CheckProcedure", func(p api.Procedure) ([]any, api.Errno) { return results(notice.CheckProcedure(p)) }},
		{"CheckNotice", func(p api.Procedure) ([]any, api.Errno) { return results(notice.CheckNotice(p, wrongNotice())) }},
		{"Phase", func(p api.Procedure) ([]any, api.Errno) { return results(notice.Phase(p, wrongNotice(), -1)) }},
		{"DeadlineAt", func(p api.Procedure) ([]any, api.Errno) { return results(notice.DeadlineAt(p, wrongNotice(), -1)) }},
		{"ObjectUntil", func(p api.Procedure) ([]any, api.Errno) { return results(notice.ObjectUntil(p, wrongNotice(), -1)) }},
		{"Add", func(p api.Procedure) ([]any, api.Errno) { return results(notice.Add(p, wrongNotice(), wrongAct())) }},
		{"May", func(p api.Procedure) ([]any, api.Errno) { return results(notice.May(p, wrongNotice(), -1)) }},
		{"ExpiresAt", func(p api.Procedure) ([]any, api.Errno) { return results(notice.ExpiresAt(p, wrongNotice())) }},
		{"Due", func(p api.Procedure) ([]any, api.Errno) {
			return results(notice.Due(p, make([]api.Notice, 41), wrongPair()))
		}},
		{"Due of none", func(p api.Procedure) ([]any, api.Errno) { return results(notice.Due(p, nil, [2]int{})) }},
		{"Earliest", func(p api.Procedure) ([]any, api.Errno) {
			return results(notice.Earliest(p, api.Reuse{Right: -2, Rest: -2}))
		}},
		{"Blocks", func(p api.Procedure) ([]any, api.Errno) {
			return results(notice.Blocks(p, api.Reuse{Right: -2, Rest: -2}, -1))
		}},
	}
}

// allOfNotices are all functions of a notice but CheckNotice.
func allOfNotices(p api.Procedure) []asked[api.Notice] {
	return []asked[api.Notice]{
		{"Phase", func(n api.Notice) ([]any, api.Errno) { return results(notice.Phase(p, n, -1)) }},
		{"DeadlineAt", func(n api.Notice) ([]any, api.Errno) { return results(notice.DeadlineAt(p, n, -1)) }},
		{"ObjectUntil", func(n api.Notice) ([]any, api.Errno) { return results(notice.ObjectUntil(p, n, -1)) }},
		{"Add", func(n api.Notice) ([]any, api.Errno) { return results(notice.Add(p, n, wrongAct())) }},
		{"May", func(n api.Notice) ([]any, api.Errno) { return results(notice.May(p, n, -1)) }},
		{"ExpiresAt", func(n api.Notice) ([]any, api.Errno) { return results(notice.ExpiresAt(p, n)) }},
		{"Due", func(n api.Notice) ([]any, api.Errno) {
			return results(notice.Due(p, []api.Notice{named("first", opened(0)), n, wrongNotice()}, wrongPair()))
		}},
		{"Earliest", func(n api.Notice) ([]any, api.Errno) {
			return results(notice.Earliest(p, api.Reuse{Right: -1, Rest: -1, Notice: n}))
		}},
		{"Blocks", func(n api.Notice) ([]any, api.Errno) { return results(notice.Blocks(p, api.Reuse{Notice: n}, -1)) }},
	}
}
