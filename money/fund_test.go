package money_test

import (
	"strconv"
	"testing"

	"mortsafe/api"
	"mortsafe/money"
)

// manyHolders are gifts of different holders.
func manyHolders(n int) []api.FundEvent {
	return repeat(n, func(i int) api.FundEvent { return gift(1, "h"+strconv.Itoa(i), 1, 0) })
}

// P9.8: funds are right up to the ends of all ranges.
func TestRightFunds(t *testing.T) {
	for i, l := range [][]api.FundEvent{
		nil, {}, fund(), {gift(0, "a", 1, 0), gift(0, "a", 10000, 1000000000000), gift(200000, "A", 1, 0), income(200000, 1000000000000), spending(200000, "A", 99980004)},
		{fee(0, 1), fee(0, 1000000000000)}, {gift(5, "a", 1, 0), income(5, 1), spending(5, "a", 1)}, longFund(199), longFund(200),
		with(manyHolders(40), gift(1, "h0", 1, 1), gift(1, "h39", 1, 1)),
		with(fund(), spending(9, "a", 300), spending(9, "b", 100), fee(9, 5), income(9, 5)),
	} {
		if e := money.CheckFund(l); e != api.OK {
			t.Error(i, e)
		}
	}
	for _, name := range rightNames {
		l, e := money.Holdings([]api.FundEvent{gift(5, name, 7, 9)}, 5)
		check(t, "Holdings", l, e, []api.Holding{{Holder: name, Units: 7}})
	}
}

// wrongEvents are events behind the example, on its last day if they have a right one.
func wrongEvents() []wrong[api.FundEvent] {
	l := []wrong[api.FundEvent]{
		{gift(9, "a", 0, 5), api.ErrRange}, {gift(9, "a", 10001, 5), api.ErrRange},
		{api.FundEvent{Day: 9, Kind: api.FundIncome, Units: 1, Cents: 5}, api.ErrForm}, {api.FundEvent{Day: 9, Kind: api.FundIncome, Units: -1}, api.ErrForm},
		{api.FundEvent{Day: 9, Kind: api.FundFee, Units: 1, Cents: 5}, api.ErrForm}, {api.FundEvent{Day: 9, Kind: api.FundFee, Units: -1}, api.ErrForm},
		{api.FundEvent{Day: 9, Kind: api.FundSpend, Units: 1, Cents: 5, Holder: "a"}, api.ErrForm}, {api.FundEvent{Day: 9, Kind: api.FundSpend, Units: -1}, api.ErrForm},
		{income(9, 0), api.ErrRange}, {fee(9, 0), api.ErrRange}, {spending(9, "a", 0), api.ErrRange}, {spending(9, "nobody", 0), api.ErrRange},
		{spending(9, "nobody", 1), api.ErrMissing}, {spending(9, "A", 1000000000000), api.ErrMissing},
		{spending(9, "a", 301), api.ErrStock}, {spending(9, "b", 101), api.ErrStock}, {spending(9, "b", 1000000000000), api.ErrStock},
	}
	for _, name := range wrongNames {
		l = append(l, wrong[api.FundEvent]{gift(9, name, 1, 1), api.ErrName}, wrong[api.FundEvent]{gift(9, name, 0, -1), api.ErrName},
			wrong[api.FundEvent]{spending(9, name, 1), api.ErrMissing}, wrong[api.FundEvent]{spending(9, name, -1), api.ErrRange})
	}
	for _, name := range []string{"a", "b", "-", "nobody", " "} {
		l = append(l, wrong[api.FundEvent]{api.FundEvent{Day: 9, Kind: api.FundIncome, Cents: 5, Holder: name}, api.ErrForm},
			wrong[api.FundEvent]{api.FundEvent{Day: 9, Kind: api.FundFee, Holder: name}, api.ErrForm})
	}
	for _, n := range noDays {
		l = append(l, wrong[api.FundEvent]{gift(n, "a", 1, 1), api.ErrRange}, wrong[api.FundEvent]{gift(n, "", 1, 1), api.ErrRange},
			wrong[api.FundEvent]{api.FundEvent{Day: n, Kind: 4}, api.ErrRange}, wrong[api.FundEvent]{spending(n, "nobody", 1), api.ErrRange})
	}
	for _, n := range noCents {
		l = append(l, wrong[api.FundEvent]{gift(9, "a", 1, n), api.ErrRange}, wrong[api.FundEvent]{income(9, n), api.ErrRange},
			wrong[api.FundEvent]{spending(9, "a", n), api.ErrRange}, wrong[api.FundEvent]{fee(9, n), api.ErrRange})
	}
	for _, n := range with(extremes, 4) {
		l = append(l, wrong[api.FundEvent]{api.FundEvent{Day: 9, Kind: n, Units: 1, Cents: 1, Holder: "a"}, api.ErrKind},
			wrong[api.FundEvent]{api.FundEvent{Day: 9, Kind: n, Units: -1, Cents: -1}, api.ErrKind})
	}
	for _, n := range extremes {
		l = append(l, wrong[api.FundEvent]{gift(9, "a", n, 1), api.ErrRange})
	}
	return l
}

// P9.8: the errors of events, which all functions of funds tell, before those of the other
// arguments.
func TestWrongFunds(t *testing.T) {
	all := allOfFunds()
	behind := []api.FundEvent{gift(8, "a", 1, 1), {Day: -1}, {Day: 9, Kind: 4}}
	for _, c := range wrongEvents() {
		checkAll(t, "a wrong event behind others", all, with(fund(), c.x), c.want)
		checkAll(t, "a wrong event before others", all, with(with(fund(), c.x), behind...), c.want)
	}
	for _, x := range []api.FundEvent{gift(8, "", 0, -1), income(0, 0), spending(8, "nobody", 1), {Day: 8, Kind: 4}, fee(8, 1)} {
		checkAll(t, "events that go back", all, with(fund(), x), api.ErrOrder)
	}
	checkAll(t, "events that go back and forth", all, with(fund(), fee(200000, 1), fee(199999, 1)), api.ErrOrder)
	checkAll(t, "many events", all, longFund(201), api.ErrLarge)
	checkAll(t, "many wrong events", all, make([]api.FundEvent, 201), api.ErrLarge)
	checkAll(t, "wrong events", all, make([]api.FundEvent, 200), api.ErrName)
}

// P9.8: an income needs units; of what is owed nothing is needed.
func TestNoUnits(t *testing.T) {
	all := allOfFunds()
	checkAll(t, "an income without units", all, []api.FundEvent{income(0, 1)}, api.ErrZero)
	checkAll(t, "an income that is owed, without units", all, []api.FundEvent{fee(0, 9), income(0, 1), gift(0, "a", 1, 1)}, api.ErrZero)
	checkAll(t, "a wrong income without units", all, []api.FundEvent{income(5, 0)}, api.ErrRange)
	checkAll(t, "an income of a holder without units", all, []api.FundEvent{{Kind: api.FundIncome, Cents: 1, Holder: "a"}}, api.ErrForm)
}

// P9.8: how many holders there may be, and that a gift must be right before they are counted.
func TestManyHolders(t *testing.T) {
	all := allOfFunds()
	checkAll(t, "many holders", all, manyHolders(41), api.ErrLarge)
	checkAll(t, "many holders before an error", all, with(manyHolders(41), gift(0, "", 0, 0)), api.ErrLarge)
	checkAll(t, "many holders and more gifts", all, with(manyHolders(40), gift(1, "h0", 1, 1), gift(1, "a", 1, 1)), api.ErrLarge)
	checkAll(t, "a wrong gift of one too many", all, with(manyHolders(40), gift(1, "a", 0, 1)), api.ErrRange)
	checkAll(t, "a wrong name of one too many", all, with(manyHolders(40), gift(1, "-", 1, 1)), api.ErrName)
	checkAll(t, "a spending of one too many", all, with(manyHolders(40), spending(1, "a", 1)), api.ErrMissing)
	l, e := money.Holdings(with(manyHolders(40), income(1, 39)), 1)
	check(t, "Holdings of many", l, e, repeat(40, func(i int) api.Holding {
		return api.Holding{Holder: "h" + strconv.Itoa(i), Units: 1, Earned: (77 - i) / 39}
	}))
}

// P9.8: more may not be spent than was earned up to then; what is not spent stays for ever.
func TestSpending(t *testing.T) {
	all := allOfFunds()
	checkAll(t, "a spending before the income", all, []api.FundEvent{gift(0, "a", 1, 500), spending(5, "a", 1), income(5, 1)}, api.ErrStock)
	checkAll(t, "a spending of what is owed", all, []api.FundEvent{gift(0, "a", 1, 500), fee(0, 10), income(5, 10), spending(5, "a", 1)}, api.ErrStock)
	checkAll(t, "a spending before the gift", all, []api.FundEvent{gift(0, "b", 1, 500), income(5, 10), spending(5, "a", 1), gift(5, "a", 1, 5)}, api.ErrMissing)
	spent := with(fund(), spending(9, "b", 60), spending(200000, "b", 40))
	checkAll(t, "a spending of too much", all, with(spent, spending(200000, "b", 1)), api.ErrStock)
	checkAll(t, "a spending of too much by another one", all, with(spent, spending(200000, "a", 301)), api.ErrStock)
	l, e := money.Holdings(with(spent, spending(200000, "a", 300)), 200000)
	check(t, "Holdings", l, e, []api.Holding{{Holder: "a", Units: 3, Earned: 300, Spent: 300}, {Holder: "b", Units: 1, Earned: 100, Spent: 100}})
	n, _, e := money.May(spent, "b", 9)
	check(t, "May on the day of a spending", n, e, 40)
	n, _, e = money.May(spent, "a", 200000)
	check(t, "May behind a long time", n, e, 300)
}

// further is the example with more holders, incomes, fees and spendings.
func further() []api.FundEvent {
	return with(fund(), fee(9, 20), gift(10, "c", 4, 0), spending(11, "b", 30), income(12, 100), gift(12, "a", 1, 7), fee(13, 500), income(14, 450), income(15, 68))
}

// P9.8: holders, the capital and what is owed, on all days.
func TestFundByDays(t *testing.T) {
	a, b, c := api.Holding{Holder: "a", Units: 3}, api.Holding{Holder: "b", Units: 1}, api.Holding{Holder: "c", Units: 4}
	earned := func(h api.Holding, earned, spent int) api.Holding {
		h.Earned, h.Spent = earned, spent
		return h
	}
	more := change(a, func(h *api.Holding) { h.Units = 4 })
	for _, c := range []struct {
		day           int
		want          []api.Holding
		capital, owed int
	}{
		{0, nil, 0, 0}, {1, []api.Holding{a}, 300000, 0}, {4, []api.Holding{a}, 300000, 0}, {5, []api.Holding{a, b}, 400000, 0}, {6, []api.Holding{a, b}, 400000, 50},
		{8, []api.Holding{a, b}, 400000, 50}, {9, []api.Holding{earned(a, 300, 0), earned(b, 100, 0)}, 400000, 20},
		{10, []api.Holding{earned(a, 300, 0), earned(b, 100, 0), c}, 400000, 20}, {11, []api.Holding{earned(a, 300, 0), earned(b, 100, 30), c}, 400000, 20},
		{12, []api.Holding{earned(more, 330, 0), earned(b, 110, 30), earned(c, 40, 0)}, 400007, 0},
		{13, []api.Holding{earned(more, 330, 0), earned(b, 110, 30), earned(c, 40, 0)}, 400007, 500},
		{14, []api.Holding{earned(more, 330, 0), earned(b, 110, 30), earned(c, 40, 0)}, 400007, 50},
		{15, []api.Holding{earned(more, 338, 0), earned(b, 112, 30), earned(c, 48, 0)}, 400007, 0},
		{200000, []api.Holding{earned(more, 338, 0), earned(b, 112, 30), earned(c, 48, 0)}, 400007, 0},
	} {
		l, e := money.Holdings(further(), c.day)
		check(t, "Holdings", l, e, c.want)
		capital, owed, e := money.Capital(further(), c.day)
		check(t, "Capital", []int{capital, owed}, e, []int{c.capital, c.owed})
	}
	for _, day := range noDays {
		l, e := money.Holdings(further(), day)
		checkError(t, "Holdings on a wrong day", []any{l}, e, api.ErrRange)
		capital, owed, e := money.Capital(nil, day)
		checkError(t, "Capital on a wrong day", []any{capital, owed}, e, api.ErrRange)
	}
}

// P9.8: what a holder may spend, and its shares of all incomes, also of those before its units,
// and of those that were owed.
func TestMay(t *testing.T) {
	for _, c := range []struct {
		holder   string
		day, may int
		shares   []int
		want     api.Errno
	}{
		{"a", 1, 0, nil, api.OK}, {"a", 8, 0, nil, api.OK}, {"a", 9, 300, []int{300}, api.OK}, {"a", 14, 330, []int{300, 30, 0}, api.OK},
		{"a", 200000, 338, []int{300, 30, 0, 8}, api.OK}, {"b", 10, 100, []int{100}, api.OK}, {"b", 11, 70, []int{100}, api.OK}, {"b", 12, 80, []int{100, 10}, api.OK},
		{"b", 15, 82, []int{100, 10, 0, 2}, api.OK}, {"c", 10, 0, []int{0}, api.OK}, {"c", 15, 48, []int{0, 40, 0, 8}, api.OK},
		{"a", 0, 0, nil, api.ErrMissing}, {"b", 4, 0, nil, api.ErrMissing}, {"c", 9, 0, nil, api.ErrMissing}, {"d", 200000, 0, nil, api.ErrMissing},
		{"a", -1, 0, nil, api.ErrRange}, {"d", 200001, 0, nil, api.ErrRange},
	} {
		n, shares, e := money.May(further(), c.holder, c.day)
		if c.want == api.OK {
			check(t, "May", n, e, c.may)
			check(t, "May: shares", shares, e, c.shares)
		} else {
			checkError(t, "May", []any{n, shares}, e, c.want)
		}
	}
	for _, name := range wrongNames {
		n, shares, e := money.May(further(), name, -1)
		checkError(t, "May of a wrong name", []any{n, shares}, e, api.ErrName)
	}
	for _, day := range noDays {
		n, shares, e := money.May(further(), "a", day)
		checkError(t, "May on a wrong day", []any{n, shares}, e, api.ErrRange)
	}
}

// P9.8: holders may have more units than Shares takes.
func TestManyUnits(t *testing.T) {
	l := repeat(198, func(i int) api.FundEvent { return gift(0, string(rune('a'+i/197)), 10000, 1000000000000) })
	l = with(l, income(0, 1000000000000), income(0, 197))
	got, e := money.Holdings(l, 0)
	check(t, "Holdings of many units", got, e, []api.Holding{{Holder: "a", Units: 1970000, Earned: 994949494949 + 196}, {Holder: "b", Units: 10000, Earned: 5050505051 + 1}})
	capital, owed, e := money.Capital(l, 0)
	check(t, "Capital of many gifts", []int{capital, owed}, e, []int{198000000000000, 0})
	_, owed, e = money.Capital(repeat(200, func(int) api.FundEvent { return fee(0, 1000000000000) }), 0)
	check(t, "Capital: many fees", owed, e, 200000000000000)
}

// P9.8: funds are merged by days, on equal days those of the first one first.
func TestMerge(t *testing.T) {
	a := []api.FundEvent{gift(1, "a", 1, 5), gift(5, "b", 1, 6), fee(5, 3), gift(9, "a", 1, 7)}
	b := []api.FundEvent{gift(0, "c", 1, 1), gift(5, "a", 2, 2), fee(5, 4), gift(5, "d", 1, 3), gift(200000, "b", 1, 1)}
	l, e := money.Merge(a, b)
	check(t, "Merge", l, e, []api.FundEvent{b[0], a[0], a[1], a[2], b[1], b[2], b[3], a[3], b[4]})
	l, e = money.Merge(b, a)
	check(t, "Merge the other way", l, e, []api.FundEvent{b[0], a[0], b[1], b[2], b[3], a[1], a[2], a[3], b[4]})
	holders, e := money.Holdings(l, 200000)
	check(t, "Merge: holders", holders, e, []api.Holding{{Holder: "c", Units: 1}, {Holder: "a", Units: 4}, {Holder: "d", Units: 1}, {Holder: "b", Units: 2}})
	for _, c := range [][2][]api.FundEvent{{a, nil}, {nil, a}} {
		l, e = money.Merge(c[0], c[1])
		check(t, "Merge with nothing", l, e, a)
	}
	l, e = money.Merge(nil, nil)
	check(t, "Merge of nothing", l, e, []api.FundEvent{})
	l, e = money.Merge(longFund(150), longFund(50))
	check(t, "Merge of many", len(l), e, 200)
}

// P9.8: two right funds may be wrong together; a wrong one is told first.
func TestWrongMerges(t *testing.T) {
	spent := []api.FundEvent{gift(0, "a", 1, 1), income(5, 10), spending(5, "a", 10)}
	for _, c := range []struct {
		a, b []api.FundEvent
		want api.Errno
	}{
		{longFund(150), longFund(51), api.ErrLarge}, {manyHolders(40), fund(), api.ErrLarge}, {spent, []api.FundEvent{gift(5, "b", 1, 1)}, api.OK},
		{spent, []api.FundEvent{gift(4, "b", 1, 1)}, api.ErrStock}, {[]api.FundEvent{gift(5, "b", 1, 1)}, spent, api.ErrStock},
		{[]api.FundEvent{fee(5, 1)}, spent, api.ErrStock}, {spent, []api.FundEvent{fee(5, 1)}, api.OK},
		{make([]api.FundEvent, 1), []api.FundEvent{fee(-1, 1)}, api.ErrName}, {longFund(200), []api.FundEvent{fee(-1, 1)}, api.ErrRange},
		{[]api.FundEvent{gift(0, "a", 1, 1)}, []api.FundEvent{income(5, 10)}, api.ErrZero}, {[]api.FundEvent{income(5, 10)}, []api.FundEvent{gift(0, "a", 1, 1)}, api.ErrZero},
	} {
		l, e := money.Merge(c.a, c.b)
		if c.want == api.OK {
			check(t, "Merge", l, e, with(c.a, c.b...))
		} else {
			checkError(t, "Merge", []any{l}, e, c.want)
		}
	}
}
