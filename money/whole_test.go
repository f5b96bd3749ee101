package money_test

import (
	"math/rand"
	"slices"
	"testing"

	"mortsafe/api"
	"mortsafe/money"
)

// The examples of the chapter.
func TestExamples(t *testing.T) {
	for day, want := range map[int]int{364: 100000, 365: 120000} {
		n, e := money.RateOf(rates(), "grave", day)
		check(t, "example 1", n, e, want)
	}
	day, e := money.Until(rates(), "grave", 100)
	check(t, "example 1: the end", day, e, 365)
	_, cents, e := money.Fee([]api.Rate{rate("grave", 0, 33333)}, []api.Remission{remission("grave", 0, 9, 125)}, []api.Charge{charge("grave", 5, 3)})
	check(t, "example 2", cents, e, 87500)
	d, e := money.Plan(100, 3, [2]int{10, 30})
	check(t, "example 3", d, e, instalments())
	open, left, e := money.Open(d, dues([2]int{35, 50}), 40)
	check(t, "example 4: open", []int{open, left}, e, []int{17, 50})
	cover, e := money.Cover(d, dues([2]int{35, 50}))
	check(t, "example 4: cover", cover, e, []int{35, -1, -1})
	for cents, c := range map[int][2][]int{100: {{1, 1, 1}, {34, 33, 33}}, 7: {{3, 2, 2}, {3, 2, 2}}, 10: {{3, 3, 1}, {4, 4, 2}}} {
		l, e := money.Shares(c[0], cents)
		check(t, "example 5", l, e, c[1])
	}
	holders, e := money.Holdings(fund(), 9)
	check(t, "example 6", holders, e, []api.Holding{{Holder: "a", Units: 3, Earned: 300}, {Holder: "b", Units: 1, Earned: 100}})
	for cents, want := range map[int]api.Errno{100: api.OK, 101: api.ErrStock} {
		if e := money.CheckFund(with(fund(), spending(9, "b", cents))); e != want {
			t.Error("example 6: spending", cents, e)
		}
	}
	accounts, sums, e := money.Trial([]api.Posting{posting(3, 500, "fees", "bank")}, 3)
	check(t, "example 7: accounts", accounts, e, []string{"bank", "fees"})
	check(t, "example 7", sums, e, []int{-500, 500})
}

func shuffled[T any](r *rand.Rand, l []T) []T {
	l = slices.Clone(l)
	r.Shuffle(len(l), func(i, j int) { l[i], l[j] = l[j], l[i] })
	return l
}

// P9.1, P9.2, P9.10: random tariffs, in any order.
func TestRandomTariffs(t *testing.T) {
	r := rand.New(rand.NewSource(90))
	found := map[api.Errno]int{}
	for range 1000 {
		l, remissions := randomRates(r), randomRemissions(r)
		other := shuffled(r, l)
		for _, class := range someClasses {
			costs := modelCosts(l, class)
			for day, cost := range costs {
				want := errorIf(cost < 0, api.ErrMissing)
				n, e := money.RateOf(l, class, day)
				checkAnswer(t, "RateOf", n, e, cost, want)
				n, e = money.RateOf(other, class, day)
				checkAnswer(t, "RateOf in another order", n, e, cost, want)
				next := modelUntil(costs, day)
				want = firstError(want, errorIf(next < 0, api.ErrNone))
				n, e = money.Until(l, class, day)
				checkAnswer(t, "Until", n, e, next, want)
				found[e]++
				n, e = money.Remitted(remissions, class, day)
				check(t, "Remitted", n, e, modelRemitted(remissions, class, day))
			}
		}
		if t.Failed() {
			t.Fatal(l, remissions)
		}
	}
	if found[api.OK] < 1000 || found[api.ErrNone] < 1000 || found[api.ErrMissing] < 1000 {
		t.Error(found)
	}
}

func errorIf(wrong bool, e api.Errno) api.Errno {
	if wrong {
		return e
	}
	return api.OK
}

func firstError(l ...api.Errno) api.Errno {
	i := slices.IndexFunc(l, func(e api.Errno) bool { return e != api.OK })
	if i < 0 {
		return api.OK
	}
	return l[i]
}

// feeOf returns a fee that must be right.
func feeOf(t *testing.T, l []api.Rate, r []api.Remission, c ...api.Charge) int {
	t.Helper()
	_, n, e := money.Fee(l, r, c)
	if e != api.OK {
		t.Fatal(l, r, c, e)
	}
	return n
}

// P9.3, P9.10: random fees: they are rounded once; more units never cost less, and a remission
// never makes them greater.
func TestRandomFees(t *testing.T) {
	r := rand.New(rand.NewSource(91))
	less := map[int]int{}
	for range 5000 {
		l, remissions := randomRates(r), randomRemissions(r)
		c := randomCharges(r, l)
		lines, fee, e := money.Fee(l, remissions, c)
		check(t, "Fee", fee, e, modelFee(l, remissions, c))
		check(t, "Fee: its lines", lines, e, repeat(len(c), func(i int) api.Line {
			x := api.Line{Charge: i, Rate: modelCosts(l, c[i].Class)[c[i].Day], PerMille: modelRemitted(remissions, c[i].Class, c[i].Day)}
			x.Amount = c[i].Units * x.Rate * (1000 - x.PerMille)
			return x
		}))
		sum := 0
		for i, x := range c {
			sum += feeOf(t, l, remissions, x)
			x.Units = min(10000, x.Units+1+r.Intn(3))
			more := slices.Clone(c)
			more[i] = x
			if feeOf(t, l, remissions, more...) < fee {
				t.Error("more units cost less", x)
			}
		}
		if fee > sum || len(c) > 0 && sum-fee >= len(c) {
			t.Error("the fee and the sum of fees", fee, sum)
		}
		less[sum-fee]++
		another := with(remissions, remission(pickOne(r, someClasses), r.Intn(5), 5+r.Intn(lastModelDay), 1+r.Intn(1000)))
		if feeOf(t, l, another, c...) > fee {
			t.Error("a remission makes the fee greater", another)
		}
		if t.Failed() {
			t.Fatal(l, remissions, c)
		}
	}
	if less[0] < 100 || less[1] < 100 || less[2] < 10 {
		t.Error(less)
	}
}

// P9.4, P9.11: random instalments add up, and differ by 1 at most, and plans are right dues.
func TestRandomInstalments(t *testing.T) {
	r := rand.New(rand.NewSource(92))
	for range 2000 {
		cents, count := r.Intn(1000), 1+r.Intn(120)
		l, e := money.Instalments(cents, count)
		check(t, "Instalments", l, e, modelInstalments(cents, count))
		cents = r.Intn(1000000000001) >> r.Intn(40)
		l, e = money.Instalments(cents, count)
		sum := 0
		for i, n := range l {
			sum += n
			if i > 0 && n > l[i-1] {
				t.Fatal("a later instalment is greater", cents, count)
			}
		}
		if sum != cents || len(l) != count || l[0]-l[count-1] > 1 || e != api.OK {
			t.Fatal(cents, count, l, e)
		}
		days := [2]int{r.Intn(1000), 1 + r.Intn(1000)}
		plan, e := money.Plan(cents, count, days)
		check(t, "Plan", plan, e, repeat(count, func(i int) api.Due { return api.Due{Day: days[0] + i*days[1], Cents: l[i]} }))
		if e := money.CheckDues(plan); e != api.OK {
			t.Fatal(plan, e)
		}
	}
}

// P9.5: random dues and payments.
func TestRandomDues(t *testing.T) {
	r := rand.New(rand.NewSource(93))
	found := map[bool]int{}
	for range 2000 {
		d, paid := randomDues(r, 9), randomDues(r, 12)
		for _, day := range modelDays() {
			back := modelPaid(paid, day)
			open, left, e := money.Open(d, paid, day)
			check(t, "Open", []int{open, left}, e, []int{max(0, modelPaid(d, day)-back), max(0, modelPaid(d, lastModelDay)-back)})
			found[open > 0]++
		}
		l, e := money.Cover(d, paid)
		check(t, "Cover", l, e, modelCover(d, paid))
		if t.Failed() {
			t.Fatal(d, paid)
		}
	}
	if found[true] < 1000 || found[false] < 1000 {
		t.Error(found)
	}
}

// P9.6, P9.12: random ledgers, with balances that add up to 0.
func TestRandomLedgers(t *testing.T) {
	r := rand.New(rand.NewSource(94))
	for range 1000 {
		l := randomLedger(r)
		for _, day := range modelDays() {
			var accounts []string
			var sums []int
			for _, account := range with(someClasses, "nothing") {
				want, used := modelBalance(l, account, day)
				n, e := money.Balance(l, account, day)
				check(t, "Balance", n, e, want)
				if used {
					accounts, sums = append(accounts, account), append(sums, want)
				}
			}
			got, n, e := money.Trial(l, day)
			check(t, "Trial: accounts", got, e, accounts)
			check(t, "Trial: balances", n, e, sums)
			if sum(n) != 0 {
				t.Error("balances of a trial", n)
			}
		}
		if t.Failed() {
			t.Fatal(l)
		}
	}
}

func sum(l []int) int {
	n := 0
	for _, x := range l {
		n += x
	}
	return n
}

// checkSameBalances compares the balances of two ledgers on all days of some.
func checkSameBalances(t *testing.T, a, b []api.Posting, from, until int) {
	t.Helper()
	for day := from; day <= until; day++ {
		for _, account := range someClasses {
			n, e := money.Balance(a, account, day)
			m, wrong := money.Balance(b, account, day)
			if n != m || e != api.OK || wrong != api.OK {
				t.Fatal(a, b, account, day)
			}
		}
	}
}

// P9.12: a posting and its reverse change no balance from then on, and a posting none before it.
func TestReversedPostings(t *testing.T) {
	r := rand.New(rand.NewSource(95))
	for range 1000 {
		l := randomLedger(r)
		day := 0
		if len(l) > 0 {
			day = l[len(l)-1].Day
		}
		more, e := money.Post(l, randomPosting(r, day+r.Intn(3)))
		if e != api.OK {
			t.Fatal(l, e)
		}
		last := more[len(more)-1].Day
		checkSameBalances(t, l, more, 0, last-1)
		at := r.Intn(len(more))
		back, e := money.Reverse(more, at, last+r.Intn(3))
		if e != api.OK {
			t.Fatal(more, at, e)
		}
		both, e := money.Post(more, back)
		if e != api.OK {
			t.Fatal(more, back, e)
		}
		without := slices.Delete(slices.Clone(more), at, at+1)
		checkSameBalances(t, without, both, back.Day, lastModelDay+5)
		checkSameBalances(t, more, both, 0, back.Day-1)
	}
}

// P9.7, P9.11: random shares.
func TestRandomShares(t *testing.T) {
	r := rand.New(rand.NewSource(96))
	for range 3000 {
		most := pickOne(r, []int{2, 4, 1000, 1000000})
		units := repeat(1+r.Intn(40), func(int) int { return r.Intn(most + 1) })
		units[r.Intn(len(units))] = most
		cents := r.Intn(1000000000001) >> r.Intn(40)
		l, e := money.Shares(units, cents)
		check(t, "Shares", l, e, modelShares(units, cents))
		if sum(l) != cents {
			t.Fatal(units, cents, l)
		}
		all := sum(units)
		for i, n := range l {
			if down := cents * units[i] / all; n < down || n > (cents*units[i]+all-1)/all {
				t.Fatal(units, cents, l, i)
			}
			for j := range l[:i] {
				if units[i] == units[j] && (l[j] < n || l[j] > n+1) {
					t.Fatal(units, cents, l, i, j)
				}
			}
		}
	}
}

// P9.8: random funds, right and wrong.
func TestRandomFunds(t *testing.T) {
	r := rand.New(rand.NewSource(97))
	found := map[api.Errno]int{}
	for range 20000 {
		l := randomFund(r)
		_, want := modelFund(l).check()
		e := money.CheckFund(l)
		if e != want {
			t.Fatal(l, e, want)
		}
		found[e]++
	}
	for _, e := range []api.Errno{api.OK, api.ErrOrder, api.ErrKind, api.ErrName, api.ErrForm, api.ErrRange, api.ErrMissing, api.ErrStock} {
		if found[e] < 20 {
			t.Error(found)
		}
	}
}

// P9.8, P9.13: random right funds on all days: what came in was earned, or has paid fees; nobody
// spends more than it earned; the capital never falls.
func TestRandomFundsByDays(t *testing.T) {
	r := rand.New(rand.NewSource(98))
	spent := 0
	for range 2000 {
		l := rightFund(r)
		capitalBefore := 0
		for _, day := range modelDays() {
			by := l.upTo(day)
			names := by.holders()
			holders, e := money.Holdings(l, day)
			check(t, "Holdings", holders, e, repeat(len(names), func(i int) api.Holding { return by.holding(names[i]) }))
			capital, owed, e := money.Capital(l, day)
			_, given := by.sum(api.FundGift, "")
			check(t, "Capital", []int{capital, owed}, e, []int{given, by.owed()})
			_, in := by.sum(api.FundIncome, "")
			_, fees := by.sum(api.FundFee, "")
			earned := 0
			for _, h := range holders {
				earned += h.Earned
				spent += h.Spent
				if h.Spent > h.Earned {
					t.Error("more was spent than earned", h)
				}
			}
			if in != earned+fees-owed || capital < capitalBefore {
				t.Error("incomes, and the capital", in, earned, fees, owed, capital)
			}
			capitalBefore = capital
			for _, name := range someClasses {
				n, shares, e := money.May(l, name, day)
				if !slices.Contains(names, name) {
					checkError(t, "May", []any{n, shares}, e, api.ErrMissing)
					continue
				}
				h := by.holding(name)
				check(t, "May", n, e, h.Earned-h.Spent)
				check(t, "May: shares", shares, e, by.shares(name))
			}
		}
		for i := range l {
			if e := money.CheckFund(l[:i]); e != api.OK {
				t.Error("a beginning", i, e)
			}
		}
		if t.Failed() {
			t.Fatal(l)
		}
	}
	if spent < 1000 {
		t.Error(spent)
	}
}

// modelMerge takes of two funds always the earlier event.
func modelMerge(a, b modelFund) modelFund {
	switch {
	case len(b) == 0:
		return a
	case len(a) > 0 && a[0].Day <= b[0].Day:
		return with(modelFund{a[0]}, modelMerge(a[1:], b)...)
	}
	return with(modelFund{b[0]}, modelMerge(a, b[1:])...)
}

// P9.8: random merges.
func TestRandomMerges(t *testing.T) {
	r := rand.New(rand.NewSource(99))
	found := map[api.Errno]int{}
	for range 5000 {
		a, b := rightFund(r), rightFund(r)
		want := modelMerge(a, b)
		_, wrong := want.check()
		l, e := money.Merge(a, b)
		checkAnswer(t, "Merge", modelFund(l), e, want, wrong)
		found[e]++
		if t.Failed() {
			t.Fatal(a, b)
		}
	}
	if found[api.OK] < 1000 || found[api.ErrStock] < 50 {
		t.Error(found)
	}
}

// P9.6, P9.9: Parse undoes Print, ParsePosting undoes FormatPosting.
func TestRandomTexts(t *testing.T) {
	r := rand.New(rand.NewSource(100))
	for range 3000 {
		l := randomRates(r)
		text, e := money.Print(l)
		if e != api.OK {
			t.Fatal(l, e)
		}
		got, i, e := money.Parse(text)
		check(t, "Parse", got, e, l)
		if again, _ := money.Print(got); again != text || i != 0 {
			t.Fatal(text, again, i)
		}
		number := func() int { return (r.Intn(10000000000000) - r.Intn(10000000000000)) >> r.Intn(44) }
		p := posting(number(), number(), pickOne(r, words), pickOne(r, words))
		other, e := money.ParsePosting(money.FormatPosting(p))
		check(t, "ParsePosting", other, e, p)
	}
}
