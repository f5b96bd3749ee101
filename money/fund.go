package money

import (
	"cmp"
	"slices"

	"mortsafe/api"
)

// fund is what the events of a care fund have made of it.
type fund struct {
	holders       []api.Holding
	numbers       map[string]int // of the holders
	capital, owed int
	shares        [][]int // of each income, by the holders that there were then
}

func newFund() *fund { return &fund{numbers: map[string]int{}} }

// fundBy returns a fund on a day, behind events that are right.
func fundBy(l []api.FundEvent, day int) *fund {
	f := newFund()
	for _, x := range beginning(l, func(x api.FundEvent) bool { return x.Day <= day }) {
		f.take(x)
	}
	return f
}

func (f *fund) take(x api.FundEvent) {
	switch x.Kind {
	case api.FundGift:
		f.holders[f.holderOf(x.Holder)].Units += x.Units
		f.capital += x.Cents
	case api.FundIncome:
		f.earn(x.Cents)
	case api.FundSpend:
		f.holders[f.numbers[x.Holder]].Spent += x.Cents
	case api.FundFee:
		f.owed += x.Cents
	}
}

// holderOf returns the number of a holder, who may be a new one.
func (f *fund) holderOf(name string) int {
	i, is := f.numbers[name]
	if !is {
		i = len(f.holders)
		f.numbers[name] = i
		f.holders = append(f.holders, api.Holding{Holder: name})
	}
	return i
}

// earn pays what is owed out of an income, and shares what is left.
func (f *fund) earn(cents int) {
	paid := min(cents, f.owed)
	f.owed -= paid
	var units []int
	for _, h := range f.holders {
		units = append(units, h.Units)
	}
	shares := shared(units, cents-paid)
	for i, share := range shares {
		f.holders[i].Earned += share
	}
	f.shares = append(f.shares, shares)
}

// may returns what the holder with a number may spend.
func (f *fund) may(i int) int { return f.holders[i].Earned - f.holders[i].Spent }

// CheckFund returns the error of a care fund's events.
func CheckFund(l []api.FundEvent) api.Errno {
	f, order := newFund(), ascending()
	return checkEach(l, api.MaxFund, func(x api.FundEvent) api.Errno {
		e := firstError(checkDay(x.Day), order(x.Day), f.check(x))
		if e == api.OK {
			f.take(x)
		}
		return e
	})
}

// check returns the error of an event behind the others, but for its day.
func (f *fund) check(x api.FundEvent) api.Errno {
	switch x.Kind {
	case api.FundGift:
		return f.checkGift(x)
	case api.FundIncome:
		return firstError(checkOfAll(x), errorIf(len(f.holders) == 0, api.ErrZero))
	case api.FundSpend:
		return f.checkSpending(x)
	case api.FundFee:
		return checkOfAll(x)
	}
	return api.ErrKind
}

func (f *fund) checkGift(x api.FundEvent) api.Errno {
	_, is := f.numbers[x.Holder]
	return firstError(
		checkName(x.Holder),
		errorIf(!isFromTo(x.Units, 1, api.MaxUnits) || !isFromTo(x.Cents, 0, api.MaxCents), api.ErrRange),
		errorIf(!is && len(f.holders) == api.MaxHolders, api.ErrLarge),
	)
}

// checkOfAll returns the error of an event of the whole fund: of no holder, and without units.
func checkOfAll(x api.FundEvent) api.Errno {
	return firstError(errorIf(x.Holder != "" || x.Units != 0, api.ErrForm), checkMoved(x))
}

// checkMoved returns the error of the cents that come in or go out.
func checkMoved(x api.FundEvent) api.Errno {
	return errorIf(!isFromTo(x.Cents, 1, api.MaxCents), api.ErrRange)
}

func (f *fund) checkSpending(x api.FundEvent) api.Errno {
	i, is := f.numbers[x.Holder]
	e := firstError(errorIf(x.Units != 0, api.ErrForm), checkMoved(x), errorIf(!is, api.ErrMissing))
	if e != api.OK {
		return e
	}
	return errorIf(x.Cents > f.may(i), api.ErrStock)
}

// Holdings returns the holders of a fund on a day, with their units, and what they earned and
// spent.
func Holdings(l []api.FundEvent, day int) ([]api.Holding, api.Errno) {
	if e := firstError(CheckFund(l), checkDay(day)); e != api.OK {
		return nil, e
	}
	return fundBy(l, day).holders, api.OK
}

// Capital returns the capital of a fund on a day, and what it owes.
func Capital(l []api.FundEvent, day int) (int, int, api.Errno) {
	if e := firstError(CheckFund(l), checkDay(day)); e != api.OK {
		return 0, 0, e
	}
	f := fundBy(l, day)
	return f.capital, f.owed, api.OK
}

// May returns what a holder may spend on a day, and its share of each income up to then.
func May(l []api.FundEvent, holder string, day int) (int, []int, api.Errno) {
	if e := firstError(CheckFund(l), checkName(holder), checkDay(day)); e != api.OK {
		return 0, nil, e
	}
	f := fundBy(l, day)
	i, is := f.numbers[holder]
	if !is {
		return 0, nil, api.ErrMissing
	}
	var own []int
	for _, shares := range f.shares {
		share := 0
		if i < len(shares) {
			share = shares[i]
		}
		own = append(own, share)
	}
	return f.may(i), own, api.OK
}

// Merge returns the events of two funds as those of one, by days.
func Merge(a, b []api.FundEvent) ([]api.FundEvent, api.Errno) {
	if e := firstError(CheckFund(a), CheckFund(b)); e != api.OK {
		return nil, e
	}
	l := slices.Concat(a, b)
	slices.SortStableFunc(l, func(x, y api.FundEvent) int { return cmp.Compare(x.Day, y.Day) })
	if e := CheckFund(l); e != api.OK {
		return nil, e
	}
	return l, api.OK
}
