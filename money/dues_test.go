package money_test

import (
	"testing"

	"mortsafe/api"
	"mortsafe/money"
)

// P9.4: the cents that are over go to the first instalments.
func TestInstalments(t *testing.T) {
	for _, c := range []struct {
		cents, count int
		want         []int
	}{
		{100, 3, []int{34, 33, 33}}, {101, 3, []int{34, 34, 33}}, {102, 3, []int{34, 34, 34}}, {2, 4, []int{1, 1, 0, 0}}, {0, 2, []int{0, 0}}, {7, 1, []int{7}},
		{1000000000000, 1, []int{1000000000000}}, {1000000000000, 3, []int{333333333334, 333333333333, 333333333333}},
		{119, 120, with(repeat(119, func(int) int { return 1 }), 0)}, {1000000000000, 120, repeat(120, func(i int) int { return 8333333333 + (159-i)/120 })},
	} {
		l, e := money.Instalments(c.cents, c.count)
		check(t, "Instalments", l, e, c.want)
	}
}

// P9.4: amounts and counts that may not be, for Instalments and for Plan.
func TestWrongInstalments(t *testing.T) {
	var l [][2]int
	for _, n := range noCents {
		l = append(l, [2]int{n, 1}, [2]int{n, 0})
	}
	for _, n := range with(extremes, 0, 121) {
		l = append(l, [2]int{100, n}, [2]int{0, n})
	}
	for _, c := range l {
		parts, e := money.Instalments(c[0], c[1])
		checkError(t, "Instalments", []any{parts}, e, api.ErrRange)
		plan, e := money.Plan(c[0], c[1], [2]int{0, 1})
		checkError(t, "Plan", []any{plan}, e, api.ErrRange)
	}
}

// P9.4: plans, up to the last day.
func TestPlan(t *testing.T) {
	for _, c := range []struct {
		cents, count int
		days         [2]int
		want         []api.Due
	}{
		{100, 3, [2]int{10, 30}, instalments()},
		{1, 1, [2]int{200000, 1000}, dues([2]int{200000, 1})},
		{5, 2, [2]int{0, 1}, dues([2]int{0, 3}, [2]int{1, 2})},
		{0, 2, [2]int{199000, 1000}, dues([2]int{199000, 0}, [2]int{200000, 0})},
		{3, 3, [2]int{199940, 30}, dues([2]int{199940, 1}, [2]int{199970, 1}, [2]int{200000, 1})},
		{120, 120, [2]int{81000, 1000}, repeat(120, func(i int) api.Due { return api.Due{Day: 81000 + 1000*i, Cents: 1} })},
	} {
		l, e := money.Plan(c.cents, c.count, c.days)
		check(t, "Plan", l, e, c.want)
	}
}

// P9.4: days of plans that may not be.
func TestWrongPlans(t *testing.T) {
	type plan struct {
		count int
		days  [2]int
	}
	l := []plan{
		{3, [2]int{199941, 30}}, {2, [2]int{200000, 1}}, {2, [2]int{199001, 1000}}, {120, [2]int{81001, 1000}}, {3, [2]int{10, 0}}, {1, [2]int{10, 0}},
		{1, [2]int{10, 1001}}, {3, [2]int{10, 1001}}, {1, [2]int{200001, 1}},
	}
	for _, n := range extremes {
		l = append(l, plan{1, [2]int{n, 1}}, plan{3, [2]int{n, 1}}, plan{1, [2]int{0, n}}, plan{3, [2]int{0, n}}, plan{120, [2]int{n, n}})
	}
	for _, c := range l {
		got, e := money.Plan(100, c.count, c.days)
		checkError(t, "Plan", []any{got}, e, api.ErrRange)
	}
}

// P9.5: dues are right up to the ends of all ranges.
func TestRightDues(t *testing.T) {
	for i, l := range [][]api.Due{
		nil, {}, instalments(), dues([2]int{0, 0}, [2]int{0, 0}, [2]int{200000, 1000000000000}, [2]int{200000, 0}), make([]api.Due, 120),
	} {
		if e := money.CheckDues(l); e != api.OK {
			t.Error(i, e)
		}
	}
}

// P9.5: the errors of dues and of payments, which all functions tell, before those of the
// arguments behind them.
func TestWrongDues(t *testing.T) {
	all := allOfDues()
	var l []wrong[api.Due]
	for _, n := range noDays {
		l = append(l, wrong[api.Due]{api.Due{Day: n}, api.ErrRange})
	}
	for _, n := range noCents {
		l = append(l, wrong[api.Due]{api.Due{Cents: n}, api.ErrRange}, wrong[api.Due]{api.Due{Day: 99, Cents: n}, api.ErrRange})
	}
	checkLists(t, all, instalments(), l, api.Due{Day: 98}, api.Due{Day: 97}, api.Due{Day: -1})
	checkAll(t, "dues that go back", all, dues([2]int{5, 1}, [2]int{4, 1}, [2]int{-1, 1}), api.ErrOrder)
	checkAll(t, "dues that go back by much", all, dues([2]int{0, 1}, [2]int{200000, 1}, [2]int{0, 1}), api.ErrOrder)
	checkAll(t, "dues that go back and forth", all, dues([2]int{5, 1}, [2]int{7, 1}, [2]int{6, 1}), api.ErrOrder)
	checkAll(t, "many dues", all, make([]api.Due, 121), api.ErrLarge)
	checkAll(t, "many wrong dues", all, with([]api.Due{{Day: -1}}, make([]api.Due, 120)...), api.ErrLarge)
	checkAll(t, "wrong dues", all, with([]api.Due{{Day: -1}}, make([]api.Due, 119)...), api.ErrRange)
	for _, day := range noDays {
		open, left, e := money.Open(instalments(), instalments(), day)
		checkError(t, "Open on a wrong day", []any{open, left}, e, api.ErrRange)
		open, left, e = money.Open(nil, nil, day)
		checkError(t, "Open of nothing on a wrong day", []any{open, left}, e, api.ErrRange)
	}
}

// P9.5: what is open on a day, and what is left in all, are at least 0.
func TestOpen(t *testing.T) {
	paid := dues([2]int{35, 50})
	twice := dues([2]int{35, 50}, [2]int{35, 20}, [2]int{71, 40})
	for _, c := range []struct {
		d, paid         []api.Due
		day, open, left int
	}{
		{instalments(), paid, 40, 17, 50}, {instalments(), paid, 39, 0, 50}, {instalments(), paid, 35, 0, 50}, {instalments(), paid, 34, 34, 100},
		{instalments(), paid, 10, 34, 100}, {instalments(), paid, 9, 0, 100}, {instalments(), paid, 69, 17, 50}, {instalments(), paid, 70, 50, 50},
		{instalments(), paid, 200000, 50, 50}, {instalments(), nil, 200000, 100, 100}, {instalments(), nil, 0, 0, 100},
		{instalments(), twice, 35, 0, 30}, {instalments(), twice, 70, 30, 30}, {instalments(), twice, 71, 0, 0}, {nil, paid, 40, 0, 0}, {nil, nil, 40, 0, 0},
		{dues([2]int{200000, 7}), nil, 199999, 0, 7}, {dues([2]int{200000, 7}), nil, 200000, 7, 7}, {dues([2]int{0, 7}), dues([2]int{0, 3}), 0, 4, 4},
		{repeat(120, func(int) api.Due { return api.Due{Cents: 1000000000000} }), dues([2]int{0, 1}), 0, 119999999999999, 119999999999999},
	} {
		open, left, e := money.Open(c.d, c.paid, c.day)
		check(t, "Open", []int{open, left}, e, []int{c.open, c.left})
	}
}

// P9.5: the days on which dues are covered; dues of nothing are from the beginning.
func TestCover(t *testing.T) {
	for _, c := range []struct {
		d, paid []api.Due
		want    []int
	}{
		{instalments(), dues([2]int{35, 50}), []int{35, -1, -1}},
		{instalments(), dues([2]int{35, 33}, [2]int{36, 1}, [2]int{200000, 66}), []int{36, 200000, 200000}},
		{instalments(), dues([2]int{0, 100}), []int{0, 0, 0}},
		{instalments(), dues([2]int{5, 0}, [2]int{7, 67}), []int{7, 7, -1}},
		{instalments(), nil, []int{-1, -1, -1}},
		{nil, dues([2]int{5, 5}), nil},
		{dues([2]int{9, 0}, [2]int{9, 5}, [2]int{9, 0}), dues([2]int{3, 2}, [2]int{3, 3}), []int{0, 3, 3}},
		{dues([2]int{9, 0}, [2]int{9, 0}), dues([2]int{3, 2}), []int{0, 0}},
		{dues([2]int{9, 0}, [2]int{9, 1}), nil, []int{0, -1}},
		{dues([2]int{9, 5}, [2]int{10, 0}), dues([2]int{30, 5}, [2]int{40, 5}), []int{30, 30}},
	} {
		l, e := money.Cover(c.d, c.paid)
		check(t, "Cover", l, e, c.want)
	}
	most := repeat(120, func(int) api.Due { return api.Due{Day: 7, Cents: 1000000000000} })
	l, e := money.Cover(most, most)
	check(t, "Cover of much", l, e, repeat(120, func(int) int { return 7 }))
}
