package money

import (
	"cmp"
	"slices"

	"mortsafe/api"
)

const maxShareUnits = 1000000

// Shares returns the shares of an amount by units.
func Shares(units []int, cents int) ([]int, api.Errno) {
	if len(units) == 0 {
		return nil, api.ErrShape
	}
	most := 0
	e := checkEach(units, api.MaxHolders, func(n int) api.Errno {
		most = max(most, n)
		return errorIf(!isFromTo(n, 0, maxShareUnits), api.ErrRange)
	})
	if e := firstError(e, errorIf(!isFromTo(cents, 0, api.MaxCents), api.ErrRange), errorIf(most == 0, api.ErrZero)); e != api.OK {
		return nil, e
	}
	return shared(units, cents), api.OK
}

// shared returns shares by units, not all of which are 0. Those of a fund's holders may be more
// than Shares takes.
func shared(units []int, cents int) []int {
	all := 0
	for _, n := range units {
		all += n
	}
	var shares, order []int
	left := cents
	for i, n := range units {
		share := cents * n / all
		shares, order = append(shares, share), append(order, i)
		left -= share
	}
	remainder := func(i int) int { return cents * units[i] % all }
	slices.SortStableFunc(order, func(i, j int) int { return cmp.Compare(remainder(j), remainder(i)) })
	for _, i := range order[:left] {
		shares[i]++
	}
	return shares
}
