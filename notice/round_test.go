package notice_test

import (
	"math"
	"slices"
	"strconv"
	"testing"

	"mortsafe/api"
	"mortsafe/notice"
)

// P8.3: who belongs to a round, and on which days.
func TestWhoIsInRounds(t *testing.T) {
	l := []api.Monument{
		monument("none"),
		monument("later", graded(1000, 1)),
		monument("months", graded(0, 1)),
		monument("now", graded(500, 3)),
		monument("down", graded(0, 3), laidDown(600)),
		monument("up", laidDown(0), graded(700, 3)),
		monument("never", repaired(199999)),
	}
	for _, c := range []struct {
		day  int
		want []int
	}{
		{0, []int{0, 1, 3, 6, 4}}, {499, []int{0, 1, 3, 6, 4}}, {500, []int{0, 1, 6, 4, 3}}, {599, []int{0, 1, 6, 4, 3}}, {600, []int{0, 1, 6, 3}},
		{699, []int{0, 1, 6, 3}}, {700, []int{0, 1, 6, 3, 5}}, {729, []int{0, 1, 6, 3, 5}}, {730, []int{0, 1, 6, 3, 5, 2}}, {999, []int{0, 1, 6, 3, 5, 2}},
		{1000, []int{0, 6, 3, 5, 2}}, {1730, []int{0, 6, 3, 5, 2}}, {1731, []int{0, 6, 3, 5, 2, 1}}, {200000, []int{0, 3, 5, 2, 1}},
	} {
		got, e := notice.Round(grading(), l, c.day)
		check(t, "Round on "+strconv.Itoa(c.day), got, e, c.want)
	}
	got, e := notice.Round(grading(), nil, 0)
	check(t, "Round of none", got, e, []int{})
}

// P8.3: the order of a round: without a visit, by falling grade, by the day, by number.
func TestOrderOfRounds(t *testing.T) {
	l := []api.Monument{
		monument("a", graded(100, 1)), monument("b", graded(5, 3)), monument("c"), monument("d", graded(4, 1)), monument("e", graded(3, 3)),
		monument("f", graded(7, 0)), monument("g", graded(5, 3)), monument("h", graded(9999, 3)), monument("i", graded(9, 2)), monument("j", graded(4, 1)),
		monument("k", graded(3, 3)), monument("l", repaired(6)), monument("m", graded(8, 2)),
	}
	got, e := notice.Round(grading(), l, 5000)
	check(t, "Round", got, e, []int{2, 7, 4, 10, 1, 6, 12, 8, 3, 9, 0, 11, 5})
	// The day that counts is that of the next visit: behind 29, 30 and 31 January it is the same.
	g := api.Grading{Tilt: [3]int{1, 1, 1}, Months: [4]int{1}}
	two := []api.Monument{monument("a", repaired(30)), monument("b", repaired(29)), monument("c", repaired(28)), monument("d", repaired(26))}
	got, e = notice.Round(g, two, 58)
	check(t, "Round on 28 February", got, e, []int{3, 0, 1, 2})
	got, e = notice.Round(g, two, 57)
	check(t, "Round on 27 February", got, e, []int{3})
}

// P8.3: the errors of rounds, in their order.
func TestWrongRounds(t *testing.T) {
	same := []api.Monument{monument("a"), monument("b"), monument("a", api.Visit{Day: -1})}
	for _, c := range []struct {
		l    []api.Monument
		day  int
		want api.Errno
	}{
		{monuments(61), 0, api.ErrLarge},
		{make([]api.Monument, 61), -1, api.ErrLarge},
		{same, -1, api.ErrRange},
		{[]api.Monument{monument("a"), monument("b"), monument("a"), {}}, -1, api.ErrExists},
		{[]api.Monument{monument("a"), {Name: "a"}}, -1, api.ErrName},
		{with(monuments(59), monument("m58")), 0, api.ErrExists},
		{with(monuments(59), monument("m58", make([]api.Visit, 41)...)), 0, api.ErrLarge},
		{monuments(2), -1, api.ErrRange},
		{nil, 200001, api.ErrRange},
		{nil, math.MinInt, api.ErrRange},
		{nil, math.MaxInt, api.ErrRange},
	} {
		got, e := notice.Round(grading(), c.l, c.day)
		checkError(t, "Round", []any{got}, e, c.want)
	}
	got, e := notice.Round(grading(), monuments(60), 200000)
	check(t, "Round of the most", got, e, countUp(60))
}

// P8.3: the errors of an order, and of what is asked of its plan.
func TestWrongOrders(t *testing.T) {
	for _, c := range []struct {
		x    round
		want api.Errno
	}{
		{round{countUp(61), [2]int{-1, 0}}, api.ErrLarge},
		{round{make([]int, 61), [2]int{0, 1}}, api.ErrLarge},
		{round{[]int{4, 4}, [2]int{-1, 0}}, api.ErrExists},
		{round{[]int{4, 5, 4}, [2]int{0, 1}}, api.ErrExists},
		{round{with(countUp(59), 0), [2]int{0, 1}}, api.ErrExists},
		{round{nil, [2]int{200001, 1}}, api.ErrRange},
		{round{nil, [2]int{-1, 1}}, api.ErrRange},
		{round{nil, [2]int{math.MaxInt, 1}}, api.ErrRange},
		{round{nil, [2]int{0, 0}}, api.ErrRange},
		{round{nil, [2]int{0, -1}}, api.ErrRange},
		{round{nil, [2]int{0, 61}}, api.ErrRange},
		{round{[]int{5}, [2]int{0, math.MaxInt}}, api.ErrRange},
		{round{[]int{5}, [2]int{0, math.MinInt}}, api.ErrRange},
	} {
		checkAll(t, "a wrong order", allOfRounds(), c.x, c.want)
	}
}

// P8.3: plans begin on a working day, and fill each one.
func TestPlanRound(t *testing.T) {
	p := api.Procedure{}
	free := api.Procedure{Holidays: newYear()}
	for _, c := range []struct {
		p     api.Procedure
		order []int
		at    [2]int
		want  []api.Stop
	}{
		{p, nil, [2]int{0, 1}, nil},
		{p, nil, [2]int{200000, 60}, nil},
		{p, []int{3, -1, 2}, [2]int{0, 60}, []api.Stop{stop(3, 0), stop(-1, 0), stop(2, 0)}},
		{p, []int{3, 1, 2}, [2]int{2, 1}, []api.Stop{stop(3, 2), stop(1, 5), stop(2, 6)}},
		{p, []int{3, 1, 2}, [2]int{3, 2}, []api.Stop{stop(3, 5), stop(1, 5), stop(2, 6)}},
		{p, []int{3, 1, 2}, [2]int{4, 3}, []api.Stop{stop(3, 5), stop(1, 5), stop(2, 5)}},
		{free, []int{3, 1, 2}, [2]int{0, 1}, []api.Stop{stop(3, 1), stop(1, 2), stop(2, 6)}},
		{free, []int{math.MaxInt, math.MinInt}, [2]int{3, 1}, []api.Stop{stop(math.MaxInt, 6), stop(math.MinInt, 7)}},
		{p, []int{7}, [2]int{199999, 1}, []api.Stop{stop(7, 199999)}},
		{p, []int{7, 8}, [2]int{199998, 1}, []api.Stop{stop(7, 199998), stop(8, 199999)}},
		{p, countUp(60), [2]int{199999, 60}, repeat(60, func(i int) api.Stop { return stop(i, 199999) })},
	} {
		got, e := notice.PlanRound(c.p, c.order, c.at)
		check(t, "PlanRound", got, e, c.want)
		last, e := notice.CheckRound(c.p, c.order, got, c.at)
		want := c.at[0]
		if len(c.want) > 0 {
			want = c.want[len(c.want)-1].Day
		}
		check(t, "CheckRound", last, e, want)
	}
	// The last working day of all is 199999, a Friday.
	for _, x := range []round{{[]int{7}, [2]int{200000, 1}}, {[]int{7, 8}, [2]int{199999, 1}}, {countUp(60), [2]int{199999, 59}}, {countUp(60), [2]int{199930, 1}}} {
		got, e := notice.PlanRound(p, x.order, x.at)
		checkError(t, "PlanRound behind all days", []any{got}, e, api.ErrRange)
	}
}

// P8.3: plans that are right in any order of their stops; the last day is the latest one.
func TestCheckRound(t *testing.T) {
	p := api.Procedure{Holidays: newYear()}
	for _, c := range []struct {
		order []int
		l     []api.Stop
		at    [2]int
		want  int
	}{
		{nil, nil, [2]int{3, 1}, 3},
		{nil, []api.Stop{}, [2]int{200000, 1}, 200000},
		{[]int{7, 8, -9}, []api.Stop{stop(8, 14), stop(7, 2), stop(-9, 8)}, [2]int{2, 1}, 14},
		{[]int{7, 8, 9}, []api.Stop{stop(8, 1), stop(7, 2), stop(9, 1)}, [2]int{1, 2}, 2},
		{[]int{7, 8, 9}, []api.Stop{stop(8, 1), stop(7, 1), stop(9, 1)}, [2]int{0, 3}, 1},
		{[]int{7}, []api.Stop{stop(7, 199999)}, [2]int{0, 1}, 199999},
		{[]int{7}, []api.Stop{stop(7, 6)}, [2]int{6, 1}, 6},
	} {
		n, e := notice.CheckRound(p, c.order, c.l, c.at)
		check(t, "CheckRound", n, e, c.want)
	}
}

// P8.3: the errors of plans, in their order, and stop by stop.
func TestWrongPlans(t *testing.T) {
	p := api.Procedure{Holidays: newYear()}
	order := []int{7, 8, 9}
	type row struct {
		l    []api.Stop
		want api.Errno
	}
	rows := []row{
		{nil, api.ErrGap},
		{[]api.Stop{stop(7, 6), stop(9, 6)}, api.ErrGap},
		{[]api.Stop{stop(7, 6), stop(8, 6), stop(7, 7)}, api.ErrExists},
		{[]api.Stop{stop(7, 6), stop(8, 6), stop(9, 7), stop(9, 8)}, api.ErrExists},
		{[]api.Stop{stop(7, 6), stop(7, -1)}, api.ErrExists},
		{[]api.Stop{stop(7, 6), stop(6, -1), stop(7, -1)}, api.ErrMissing},
		{[]api.Stop{stop(0, 6)}, api.ErrMissing},
		{[]api.Stop{stop(7, 6), stop(8, 6), stop(9, 7), stop(10, 8)}, api.ErrMissing},
		{[]api.Stop{stop(7, 1), stop(7, 6)}, api.ErrEarly},
		{[]api.Stop{stop(7, 3)}, api.ErrEarly},
		{[]api.Stop{stop(7, 0)}, api.ErrEarly},
		{[]api.Stop{stop(7, 5)}, api.ErrState},
		{[]api.Stop{stop(7, 10)}, api.ErrState},
		{[]api.Stop{stop(7, 11)}, api.ErrState},
		{[]api.Stop{stop(7, 200000)}, api.ErrState},
		{[]api.Stop{stop(7, 365)}, api.ErrState},
		{[]api.Stop{stop(7, 6), stop(8, 7), stop(9, 11), stop(9, 6)}, api.ErrState},
		{[]api.Stop{stop(7, 6), stop(8, 6), stop(9, 6)}, api.ErrFull},
		{[]api.Stop{stop(7, 6), stop(8, 6), stop(9, 6), stop(1, 1)}, api.ErrFull},
	}
	for _, day := range noDays {
		rows = append(rows, row{[]api.Stop{stop(7, 6), stop(8, day), stop(7, 6)}, api.ErrRange})
	}
	for _, c := range rows {
		n, e := notice.CheckRound(p, order, c.l, [2]int{4, 2})
		checkError(t, "CheckRound", []any{n}, e, c.want)
	}
	for _, l := range [][]api.Stop{{stop(0, 6)}, make([]api.Stop, 100)} {
		n, e := notice.CheckRound(p, nil, l, [2]int{0, 1})
		checkError(t, "CheckRound of none", []any{n}, e, api.ErrMissing)
	}
	full := repeat(60, func(i int) api.Stop { return stop(i, 6) })
	n, e := notice.CheckRound(p, countUp(60), full, [2]int{0, 60})
	check(t, "CheckRound of the most", n, e, 6)
	slices.Reverse(full)
	n, e = notice.CheckRound(p, countUp(60), full, [2]int{0, 59})
	checkError(t, "CheckRound of too many", []any{n}, e, api.ErrFull)
}
