package money_test

import (
	"strconv"
	"testing"

	"mortsafe/api"
	"mortsafe/money"
)

// wrong is an element of a list with its error.
type wrong[T any] struct {
	x    T
	want api.Errno
}

// checkLists expects the errors of elements in a list: alone, behind others, and before others
// that are wrong in another way.
func checkLists[T any](t *testing.T, all []asked[[]T], right []T, l []wrong[T], behind ...T) {
	t.Helper()
	for _, c := range l {
		checkAll(t, "a wrong one alone", all, []T{c.x}, c.want)
		checkAll(t, "a wrong one behind others", all, with(right, c.x), c.want)
		checkAll(t, "a wrong one before others", all, with(with(right, c.x), behind...), c.want)
	}
}

// P9.1: rates are right up to the ends of all ranges, in any order.
func TestRightRates(t *testing.T) {
	for i, l := range [][]api.Rate{
		nil, {}, rates(), {rate("a", 0, 0)}, {rate("a", 200000, 1000000)}, {rate("a", 5, 1), rate("a", 4, 1), rate("A", 5, 1)}, longTariff(99), longTariff(100),
	} {
		if e := money.CheckRates(l); e != api.OK {
			t.Error(i, e)
		}
	}
	for _, name := range rightNames {
		if e := money.CheckRates([]api.Rate{rate(name, 1, 1)}); e != api.OK {
			t.Error(name, e)
		}
		n, e := money.RateOf([]api.Rate{rate(name, 1, 7)}, name, 1)
		check(t, "RateOf "+name, n, e, 7)
	}
}

func wrongRatesOfAll() []wrong[api.Rate] {
	var l []wrong[api.Rate]
	for _, name := range wrongNames {
		l = append(l, wrong[api.Rate]{rate(name, 0, 0), api.ErrName}, wrong[api.Rate]{rate(name, -1, -1), api.ErrName})
	}
	for _, n := range noDays {
		l = append(l, wrong[api.Rate]{rate("a", n, 0), api.ErrRange})
	}
	for _, n := range with(extremes, 1000001) {
		l = append(l, wrong[api.Rate]{rate("a", 0, n), api.ErrRange}, wrong[api.Rate]{rate("grave", 0, n), api.ErrRange})
	}
	return l
}

// P9.1: the errors of rates, which all functions tell that have some, before those of the other
// arguments.
func TestWrongRates(t *testing.T) {
	all := allOfRates()
	checkLists(t, all, rates(), wrongRatesOfAll(), rate("", 0, 0), rate("a", -1, 0))
	for _, x := range []api.Rate{rate("grave", 365, 120000), rate("grave", 0, 1), rate("urn", 20, 0)} {
		checkAll(t, "a rate twice", all, with(rates(), x), api.ErrExists)
		checkAll(t, "a rate twice before a wrong one", all, with(rates(), x, rate("", 0, 0)), api.ErrExists)
		checkAll(t, "a rate twice behind a wrong one", all, with([]api.Rate{rate("a", 0, -1)}, with(rates(), x)...), api.ErrRange)
	}
	checkAll(t, "many rates", all, longTariff(101), api.ErrLarge)
	checkAll(t, "many wrong rates", all, make([]api.Rate, 101), api.ErrLarge)
	checkAll(t, "wrong rates", all, make([]api.Rate, 100), api.ErrName)
}

// classes are functions of a class on a day, in a right tariff.
func classes() map[string]func(class string, day int) (int, api.Errno) {
	l := rates()
	r := []api.Remission{remission("grave", 0, 9, 125)}
	return map[string]func(class string, day int) (int, api.Errno){
		"RateOf":   func(class string, day int) (int, api.Errno) { return money.RateOf(l, class, day) },
		"Until":    func(class string, day int) (int, api.Errno) { return money.Until(l, class, day) },
		"Remitted": func(class string, day int) (int, api.Errno) { return money.Remitted(r, class, day) },
	}
}

// P9.1, P9.2: a class that is no name comes before a day that is none.
func TestWrongClassesAndDays(t *testing.T) {
	for what, f := range classes() {
		for _, name := range wrongNames {
			for _, day := range []int{-1, 0, 200001} {
				n, e := f(name, day)
				checkError(t, what+" of "+strconv.Quote(name), []any{n}, e, api.ErrName)
			}
		}
		for _, day := range noDays {
			for _, class := range []string{"grave", "nothing"} {
				n, e := f(class, day)
				checkError(t, what+" on a wrong day", []any{n}, e, api.ErrRange)
			}
		}
	}
}

// P9.1: the rate is that with the greatest day of those up to the day.
func TestRateOf(t *testing.T) {
	for _, c := range []struct {
		class      string
		day, cents int
		want       api.Errno
	}{
		{"grave", 0, 100000, api.OK}, {"grave", 364, 100000, api.OK}, {"grave", 365, 120000, api.OK}, {"grave", 200000, 120000, api.OK},
		{"urn", 0, 0, api.ErrMissing}, {"urn", 9, 0, api.ErrMissing}, {"urn", 10, 500, api.OK}, {"urn", 20, 500, api.OK}, {"urn", 29, 500, api.OK},
		{"urn", 30, 0, api.OK}, {"urn", 200000, 0, api.OK}, {"care", 200000, 0, api.ErrMissing}, {"Grave", 5, 0, api.ErrMissing},
	} {
		n, e := money.RateOf(rates(), c.class, c.day)
		checkAnswer(t, "RateOf "+c.class, n, e, c.cents, c.want)
	}
	n, e := money.RateOf([]api.Rate{rate("a", 200000, 3)}, "a", 200000)
	check(t, "RateOf on the last day", n, e, 3)
	n, e = money.RateOf(nil, "a", 5)
	checkError(t, "RateOf of no rates", []any{n}, e, api.ErrMissing)
}

// P9.1: a rate ends where another one begins that is not the same.
func TestUntil(t *testing.T) {
	for _, c := range []struct {
		class     string
		day, next int
		want      api.Errno
	}{
		{"grave", 0, 365, api.OK}, {"grave", 100, 365, api.OK}, {"grave", 364, 365, api.OK}, {"grave", 365, 0, api.ErrNone}, {"grave", 200000, 0, api.ErrNone},
		{"urn", 9, 0, api.ErrMissing}, {"urn", 10, 30, api.OK}, {"urn", 20, 30, api.OK}, {"urn", 29, 30, api.OK}, {"urn", 30, 0, api.ErrNone},
		{"care", 5, 0, api.ErrMissing},
	} {
		n, e := money.Until(rates(), c.class, c.day)
		checkAnswer(t, "Until "+c.class, n, e, c.next, c.want)
	}
	back := []api.Rate{rate("a", 200000, 3), rate("a", 50, 5), rate("b", 20, 9), rate("a", 30, 4), rate("a", 0, 3), rate("a", 40, 3)}
	for _, c := range [][2]int{{0, 30}, {29, 30}, {30, 40}, {40, 50}, {50, 200000}, {199999, 200000}} {
		n, e := money.Until(back, "a", c[0])
		check(t, "Until of a rate that comes back", n, e, c[1])
	}
	n, e := money.Until([]api.Rate{rate("a", 0, 3), rate("a", 7, 3)}, "a", 5)
	checkError(t, "Until of a rate that is the same", []any{n}, e, api.ErrNone)
}

// P9.2: remissions are right up to the ends of all ranges.
func TestRightRemissions(t *testing.T) {
	for i, l := range [][]api.Remission{
		nil, {}, {remission("a", 0, 1, 1)}, {remission("a", 199999, 200000, 1000)}, {remission("a", 0, 200000, 1000), remission("a", 0, 200000, 1000)},
		repeat(100, func(int) api.Remission { return remission("a", 5, 6, 1000) }),
	} {
		if e := money.CheckRemissions(l); e != api.OK {
			t.Error(i, e)
		}
	}
	for _, name := range rightNames {
		n, e := money.Remitted([]api.Remission{remission(name, 1, 2, 7)}, name, 1)
		check(t, "Remitted "+name, n, e, 7)
	}
}

func wrongRemissionsOfAll() []wrong[api.Remission] {
	l := []wrong[api.Remission]{
		{remission("a", 0, 5, 0), api.ErrRange}, {remission("a", 0, 5, 1001), api.ErrRange}, {remission("a", 0, 0, 0), api.ErrRange},
		{remission("a", 3, 3, 1), api.ErrOrder}, {remission("a", 0, 0, 1000), api.ErrOrder}, {remission("a", 200000, 199999, 1), api.ErrOrder},
		{remission("grave", 200000, 200000, 1), api.ErrOrder}, {remission("a", 4, 3, 1), api.ErrOrder},
	}
	for _, name := range wrongNames {
		l = append(l, wrong[api.Remission]{remission(name, 0, 5, 1), api.ErrName}, wrong[api.Remission]{remission(name, -1, 0, 0), api.ErrName})
	}
	for _, n := range noDays {
		l = append(l, wrong[api.Remission]{remission("a", n, 5, 1), api.ErrRange}, wrong[api.Remission]{remission("a", 0, n, 1), api.ErrRange})
	}
	for _, n := range extremes {
		l = append(l, wrong[api.Remission]{remission("a", 0, 5, n), api.ErrRange}, wrong[api.Remission]{remission("a", 5, 0, n), api.ErrRange})
	}
	return l
}

// P9.2, P9.3: the errors of remissions, which all functions tell that have some, before those of
// the arguments behind them.
func TestWrongRemissions(t *testing.T) {
	all := allOfRemissions()
	right := []api.Remission{remission("grave", 0, 9, 125), remission("grave", 5, 8, 900)}
	checkLists(t, all, right, wrongRemissionsOfAll(), remission("", 0, 5, 1), remission("a", 0, 0, 1))
	checkAll(t, "many remissions", all, repeat(101, func(int) api.Remission { return right[0] }), api.ErrLarge)
	checkAll(t, "many wrong remissions", all, make([]api.Remission, 101), api.ErrLarge)
	checkAll(t, "wrong remissions", all, make([]api.Remission, 100), api.ErrName)
}

// P9.2: remissions are added up, but to all at most; the day To does not count.
func TestRemitted(t *testing.T) {
	l := []api.Remission{remission("grave", 0, 9, 125), remission("urn", 0, 200000, 1), remission("grave", 5, 8, 900), remission("urn", 7, 8, 998), remission("urn", 7, 8, 1)}
	for _, c := range []struct {
		class     string
		day, want int
	}{
		{"grave", 0, 125}, {"grave", 4, 125}, {"grave", 5, 1000}, {"grave", 7, 1000}, {"grave", 8, 125}, {"grave", 9, 0}, {"grave", 200000, 0},
		{"urn", 6, 1}, {"urn", 7, 1000}, {"urn", 8, 1}, {"urn", 199999, 1}, {"urn", 200000, 0}, {"care", 5, 0},
	} {
		n, e := money.Remitted(l, c.class, c.day)
		check(t, "Remitted "+c.class, n, e, c.want)
	}
	for day, want := range []int{999, 0} {
		n, e := money.Remitted([]api.Remission{remission("a", 0, 1, 499), remission("a", 0, 1, 500)}, "a", day)
		check(t, "Remitted", n, e, want)
	}
	n, e := money.Remitted(repeat(100, func(int) api.Remission { return remission("a", 5, 6, 1000) }), "a", 5)
	check(t, "Remitted of many", n, e, 1000)
}

// P9.3: the lines of charges, in their order, and the fee, rounded up once.
func TestFee(t *testing.T) {
	l := []api.Rate{rate("a", 0, 1), rate("b", 5, 33333), rate("b", 9, 1000000), rate("free", 0, 0)}
	r := []api.Remission{remission("a", 0, 9, 600), remission("b", 5, 9, 125), remission("b", 20, 30, 500), remission("b", 20, 25, 500)}
	for _, c := range []struct {
		charges []api.Charge
		lines   [][3]int
		fee     int
	}{
		{nil, nil, 0},
		{[]api.Charge{charge("b", 8, 3)}, [][3]int{{33333, 125, 87499125}}, 87500},
		{[]api.Charge{charge("a", 0, 1), charge("a", 9, 2), charge("a", 8, 1)}, [][3]int{{1, 600, 400}, {1, 0, 2000}, {1, 600, 400}}, 3},
		{[]api.Charge{charge("a", 0, 1), charge("a", 0, 1)}, [][3]int{{1, 600, 400}, {1, 600, 400}}, 1},
		{[]api.Charge{charge("a", 0, 1)}, [][3]int{{1, 600, 400}}, 1},
		{[]api.Charge{charge("a", 0, 5)}, [][3]int{{1, 600, 2000}}, 2},
		{[]api.Charge{charge("a", 9, 1), charge("free", 9, 10000)}, [][3]int{{1, 0, 1000}, {0, 0, 0}}, 1},
		{[]api.Charge{charge("b", 22, 10000)}, [][3]int{{1000000, 1000, 0}}, 0},
		{[]api.Charge{charge("b", 25, 10000), charge("b", 200000, 10000)}, [][3]int{{1000000, 500, 5000000000000}, {1000000, 0, 10000000000000}}, 15000000000},
	} {
		lines, fee, e := money.Fee(l, r, c.charges)
		want := repeat(len(c.lines), func(i int) api.Line {
			return api.Line{Charge: i, Rate: c.lines[i][0], PerMille: c.lines[i][1], Amount: c.lines[i][2]}
		})
		check(t, "Fee: its lines", lines, e, want)
		check(t, "Fee", fee, e, c.fee)
	}
}

// P9.3: the errors of charges, one by one; also a charge without a cost needs a rate.
func TestWrongCharges(t *testing.T) {
	l := []wrong[api.Charge]{
		{charge("urn", 9, 1), api.ErrMissing}, {charge("care", 9, 1), api.ErrMissing}, {charge("URN", 9, 1), api.ErrMissing},
		{charge("grave", 5, 0), api.ErrRange}, {charge("grave", 5, 10001), api.ErrRange}, {charge("care", 5, 10001), api.ErrRange},
		{charge("urn", 9, 0), api.ErrRange}, {charge("care", 200001, 1), api.ErrRange},
	}
	for _, name := range wrongNames {
		l = append(l, wrong[api.Charge]{charge(name, 5, 1), api.ErrName}, wrong[api.Charge]{charge(name, -1, 0), api.ErrName})
	}
	for _, n := range noDays {
		l = append(l, wrong[api.Charge]{charge("grave", n, 1), api.ErrRange}, wrong[api.Charge]{charge("nothing", n, 1), api.ErrRange})
	}
	for _, n := range extremes {
		l = append(l, wrong[api.Charge]{charge("grave", 5, n), api.ErrRange})
	}
	all := []asked[[]api.Charge]{{"Fee", func(c []api.Charge) ([]any, api.Errno) {
		return results(money.Fee(rates(), []api.Remission{remission("urn", 0, 99, 1000)}, c))
	}}}
	right := []api.Charge{charge("grave", 0, 1), charge("urn", 10, 10000), charge("grave", 200000, 1)}
	checkLists(t, all, right, l, charge("", 0, 1), charge("grave", 0, 0), charge("care", 0, 1))
	checkAll(t, "many charges", all, repeat(61, func(int) api.Charge { return right[0] }), api.ErrLarge)
	checkAll(t, "many wrong charges", all, wrongCharges(), api.ErrLarge)
	lines, fee, e := money.Fee(rates(), nil, repeat(60, func(int) api.Charge { return right[0] }))
	check(t, "Fee of many charges", fee, e, 6000000)
	check(t, "Fee: the number of its lines", len(lines), e, 60)
}
