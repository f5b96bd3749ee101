package money

import (
	"maps"
	"slices"

	"mortsafe/api"
)

// CheckPostings returns the error of a ledger.
func CheckPostings(l []api.Posting) api.Errno {
	order := ascending()
	return checkEach(l, api.MaxPostings, func(p api.Posting) api.Errno {
		return firstError(
			errorIf(!isDay(p.Day) || !isFromTo(p.Cents, 1, api.MaxCents), api.ErrRange),
			checkName(p.Debit),
			checkName(p.Credit),
			errorIf(p.Debit == p.Credit, api.ErrForm),
			order(p.Day),
		)
	})
}

// Post returns a ledger with a posting more at its end.
func Post(l []api.Posting, p api.Posting) ([]api.Posting, api.Errno) {
	longer := slices.Concat(l, []api.Posting{p})
	if e := CheckPostings(longer); e != api.OK {
		return nil, e
	}
	return longer, api.OK
}

// Balance returns the balance of an account on a day.
func Balance(l []api.Posting, account string, day int) (int, api.Errno) {
	if e := firstError(CheckPostings(l), checkName(account), checkDay(day)); e != api.OK {
		return 0, e
	}
	return balances(l, day)[account], api.OK
}

// Trial returns the accounts that are used up to a day, and their balances.
func Trial(l []api.Posting, day int) ([]string, []int, api.Errno) {
	if e := firstError(CheckPostings(l), checkDay(day)); e != api.OK {
		return nil, nil, e
	}
	all := balances(l, day)
	accounts := slices.Sorted(maps.Keys(all))
	var sums []int
	for _, account := range accounts {
		sums = append(sums, all[account])
	}
	return accounts, sums, api.OK
}

// balances returns the balances on a day of the accounts that are used up to it.
func balances(l []api.Posting, day int) map[string]int {
	all := map[string]int{}
	for _, p := range beginning(l, func(p api.Posting) bool { return p.Day <= day }) {
		all[p.Debit] += p.Cents
		all[p.Credit] -= p.Cents
	}
	return all
}

// Reverse returns the posting on a day that takes one of a ledger back.
func Reverse(l []api.Posting, at, day int) (api.Posting, api.Errno) {
	if e := firstError(CheckPostings(l), errorIf(!isFromTo(at, 0, len(l)-1), api.ErrMissing), checkDay(day)); e != api.OK {
		return api.Posting{}, e
	}
	if day < l[len(l)-1].Day {
		return api.Posting{}, api.ErrEarly
	}
	p := l[at]
	return api.Posting{Day: day, Cents: p.Cents, Debit: p.Credit, Credit: p.Debit}, api.OK
}
