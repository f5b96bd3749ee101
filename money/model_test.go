package money_test

import (
	"math/big"
	"math/rand"
	"slices"

	"mortsafe/api"
)

// This file says again what chapter 9 says, slowly: rates and balances day by day, shares as
// fractions, and of a fund each time all of its history.

// lastModelDay is the last day of which models tell something.
const lastModelDay = 40

// modelDays are the days of which models tell something.
func modelDays() []int { return countUp(lastModelDay + 1) }

// modelCosts returns what a class costs on each day, or -1.
func modelCosts(l []api.Rate, class string) []int {
	var costs []int
	cost := -1
	for _, day := range modelDays() {
		for _, r := range l {
			if r.Class == class && r.From == day {
				cost = r.Cents
			}
		}
		costs = append(costs, cost)
	}
	return costs
}

// modelUntil returns the first day behind a day on which the cost is another one, or -1.
func modelUntil(costs []int, day int) int {
	for later := day + 1; later < len(costs); later++ {
		if costs[later] != costs[day] {
			return later
		}
	}
	return -1
}

// modelRemitted counts the thousandths of each day of each remission.
func modelRemitted(l []api.Remission, class string, day int) int {
	sum := 0
	for _, r := range l {
		for d := r.From; d < r.To; d++ {
			if d == day && r.Class == class {
				sum += r.PerMille
			}
		}
	}
	if sum > 1000 {
		return 1000
	}
	return sum
}

// modelFee adds exact cents, and rounds up.
func modelFee(l []api.Rate, r []api.Remission, c []api.Charge) int {
	sum := new(big.Rat)
	for _, x := range c {
		amount := big.NewRat(int64(x.Units*modelCosts(l, x.Class)[x.Day]), 1)
		part := big.NewRat(int64(1000-modelRemitted(r, x.Class, x.Day)), 1000)
		sum.Add(sum, amount.Mul(amount, part))
	}
	whole := floor(sum)
	if !sum.IsInt() {
		whole++
	}
	return whole
}

func floor(x *big.Rat) int { return int(new(big.Int).Div(x.Num(), x.Denom()).Int64()) }

// modelInstalments deals out the cents one by one.
func modelInstalments(cents, count int) []int {
	l := make([]int, count)
	for i := range cents {
		l[i%count]++
	}
	return l
}

// modelPaid returns the cents of amounts up to and on a day.
func modelPaid(l []api.Due, day int) int {
	sum := 0
	for _, d := range l {
		if d.Day <= day {
			sum += d.Cents
		}
	}
	return sum
}

func modelCover(d, paid []api.Due) []int {
	return repeat(len(d), func(i int) int {
		return slices.IndexFunc(modelDays(), func(day int) bool { return modelPaid(paid, day) >= modelPaid(d[:i+1], lastModelDay) })
	})
}

// modelBalance returns the balance of an account, and whether it is used.
func modelBalance(l []api.Posting, account string, day int) (int, bool) {
	sum, used := 0, false
	for _, p := range l {
		if p.Day > day {
			continue
		}
		if p.Debit == account {
			sum, used = sum+p.Cents, true
		}
		if p.Credit == account {
			sum, used = sum-p.Cents, true
		}
	}
	return sum, used
}

// modelShares rounds down, and then gives one cent after the other to whom the most is missing.
func modelShares(units []int, cents int) []int {
	all := 0
	for _, n := range units {
		all += n
	}
	missing, shares := make([]*big.Rat, len(units)), make([]int, len(units))
	left := cents
	for i, n := range units {
		exact := new(big.Rat).Mul(big.NewRat(int64(cents), 1), big.NewRat(int64(n), int64(all)))
		shares[i] = floor(exact)
		missing[i] = exact.Sub(exact, big.NewRat(int64(shares[i]), 1))
		left -= shares[i]
	}
	for ; left > 0; left-- {
		most := 0
		for i := range units {
			if missing[i].Cmp(missing[most]) > 0 {
				most = i
			}
		}
		shares[most]++
		missing[most] = big.NewRat(-1, 1)
	}
	return shares
}

// modelFund is the events of a fund up to one of them.
type modelFund []api.FundEvent

func (l modelFund) upTo(day int) modelFund {
	return slices.DeleteFunc(slices.Clone(l), func(x api.FundEvent) bool { return x.Day > day })
}

func (l modelFund) holders() []string {
	var all []string
	for _, x := range l {
		if x.Kind == api.FundGift && !slices.Contains(all, x.Holder) {
			all = append(all, x.Holder)
		}
	}
	return all
}

// sum adds up the units or the cents of events of a kind and a holder ("": of all).
func (l modelFund) sum(kind int, holder string) (units, cents int) {
	for _, x := range l {
		if x.Kind == kind && (holder == "" || x.Holder == holder) {
			units, cents = units+x.Units, cents+x.Cents
		}
	}
	return units, cents
}

func (l modelFund) owed() int {
	if len(l) == 0 {
		return 0
	}
	before, last := l[:len(l)-1].owed(), l[len(l)-1]
	switch last.Kind {
	case api.FundFee:
		return before + last.Cents
	case api.FundIncome:
		return max(0, before-last.Cents)
	}
	return before
}

// shares returns the shares of a holder in all incomes.
func (l modelFund) shares(holder string) []int {
	var own []int
	for i, x := range l {
		if x.Kind != api.FundIncome {
			continue
		}
		before := l[:i]
		all := before.holders()
		units := repeat(len(all), func(i int) int {
			n, _ := before.sum(api.FundGift, all[i])
			return n
		})
		at := slices.Index(all, holder)
		if at < 0 {
			own = append(own, 0)
			continue
		}
		own = append(own, modelShares(units, max(0, x.Cents-before.owed()))[at])
	}
	return own
}

func (l modelFund) holding(holder string) api.Holding {
	h := api.Holding{Holder: holder}
	h.Units, _ = l.sum(api.FundGift, holder)
	_, h.Spent = l.sum(api.FundSpend, holder)
	for _, share := range l.shares(holder) {
		h.Earned += share
	}
	return h
}

// errorOf is the error of an event behind others.
func (l modelFund) errorOf(x api.FundEvent) api.Errno {
	isOfAll := x.Kind == api.FundIncome || x.Kind == api.FundFee
	isHolder := slices.Contains(l.holders(), x.Holder)
	switch {
	case x.Day < 0 || x.Day > 200000:
		return api.ErrRange
	case len(l) > 0 && x.Day < l[len(l)-1].Day:
		return api.ErrOrder
	case x.Kind < 0 || x.Kind > 3:
		return api.ErrKind
	case x.Kind == api.FundGift && slices.Contains(wrongNames, x.Holder):
		return api.ErrName
	case isOfAll && (x.Holder != "" || x.Units != 0), x.Kind == api.FundSpend && x.Units != 0:
		return api.ErrForm
	case x.Kind == api.FundGift && (x.Units < 1 || x.Units > 10000), x.Kind != api.FundGift && x.Cents == 0, x.Cents < 0, x.Cents > 1000000000000:
		return api.ErrRange
	case x.Kind == api.FundGift && !isHolder && len(l.holders()) == 40:
		return api.ErrLarge
	case x.Kind == api.FundIncome && len(l.holders()) == 0:
		return api.ErrZero
	case x.Kind == api.FundSpend && !isHolder:
		return api.ErrMissing
	case x.Kind == api.FundSpend && x.Cents > l.holding(x.Holder).Earned-l.holding(x.Holder).Spent:
		return api.ErrStock
	}
	return api.OK
}

// check returns how many events are right, and the error of the next one.
func (l modelFund) check() (int, api.Errno) {
	for i, x := range l {
		if e := l[:i].errorOf(x); e != api.OK {
			return i, e
		}
	}
	return len(l), api.OK
}

// someClasses are the classes, accounts and holders of random lists.
var someClasses = []string{"a", "b", "c", "d"}

func randomRates(r *rand.Rand) []api.Rate {
	var l []api.Rate
	for range r.Intn(12) {
		x := rate(pickOne(r, someClasses[:3]), r.Intn(lastModelDay), pickOne(r, []int{0, 1, 7, 7, 501, 33333, 999999, 1000000}))
		if !slices.ContainsFunc(l, func(y api.Rate) bool { return x.Class == y.Class && x.From == y.From }) {
			l = append(l, x)
		}
	}
	return l
}

func randomRemissions(r *rand.Rand) []api.Remission {
	return repeat(r.Intn(6), func(int) api.Remission {
		from := r.Intn(lastModelDay)
		return remission(pickOne(r, someClasses[:3]), from, from+1+r.Intn(lastModelDay), pickOne(r, []int{1, 125, 333, 500, 999, 1000}))
	})
}

// randomCharges are charges for which there are rates.
func randomCharges(r *rand.Rand, l []api.Rate) []api.Charge {
	return repeat(r.Intn(6)*min(1, len(l)), func(int) api.Charge {
		x := pickOne(r, l)
		return charge(x.Class, x.From+r.Intn(lastModelDay-x.From), pickOne(r, []int{1, 2, 3, 7, 9999, 10000}))
	})
}

// randomDues are amounts by days, with the cents of all of them below a number.
func randomDues(r *rand.Rand, most int) []api.Due {
	days := repeat(r.Intn(7), func(int) int { return r.Intn(lastModelDay) })
	slices.Sort(days)
	return repeat(len(days), func(i int) api.Due { return api.Due{Day: days[i], Cents: r.Intn(most)} })
}

func randomLedger(r *rand.Rand) []api.Posting {
	days := repeat(r.Intn(12), func(int) int { return r.Intn(lastModelDay) })
	slices.Sort(days)
	return repeat(len(days), func(i int) api.Posting { return randomPosting(r, days[i]) })
}

func randomPosting(r *rand.Rand, day int) api.Posting {
	at := r.Perm(len(someClasses))
	return posting(day, 1+r.Intn(20), someClasses[at[0]], someClasses[at[1]])
}

// randomFund are events, right or not.
func randomFund(r *rand.Rand) []api.FundEvent {
	day := 0
	return repeat(1+r.Intn(14), func(i int) api.FundEvent {
		day = min(day+r.Intn(4), lastModelDay) - r.Intn(50)/49
		cents := r.Intn(40)
		switch kind := r.Intn(60); {
		case i == 0 || kind < 14:
			return gift(day, pickOne(r, someClasses), 1+r.Intn(5), cents)
		case kind < 32:
			return income(day, 2*cents+1)
		case kind < 46:
			return fee(day, cents/4+1)
		case kind < 58:
			return spending(day, pickOne(r, someClasses), cents/2+1)
		}
		return api.FundEvent{Day: day, Kind: r.Intn(5), Units: r.Intn(2), Cents: r.Intn(2), Holder: pickOne(r, []string{"", "a"})}
	})
}

// rightFund is a random fund up to its first error.
func rightFund(r *rand.Rand) modelFund {
	l := modelFund(randomFund(r))
	n, _ := l.check()
	return l[:n]
}
