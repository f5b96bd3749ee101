package consent

import (
	"slices"

	"mortsafe/api"
)

const (
	mostHolders = 30
	mostDen     = 1000000
)

// gcd returns the greatest common divisor of two numbers, of which b is above 0;
// a may be any number.
func gcd(a, b int) int {
	for a != 0 {
		a, b = b%a, a
	}
	return max(b, -b)
}

func isLowest(f api.Frac) bool { return f.Den > 0 && gcd(f.Num, f.Den) == 1 }

func isTooFine(f api.Frac) bool { return f.Den > mostDen }

// OfShares returns the rule that asks for more than a part of all shares.
func OfShares(holders []string, shares []api.Frac, most api.Frac) (api.Rule, api.Errno) {
	if e := checkShares(holders, shares, most); e != api.OK {
		return api.Rule{}, e
	}
	d := commonDen(shares)
	if d > api.MaxWeight {
		return api.Rule{}, api.ErrLarge
	}
	if !addUp(shares, d) {
		return api.Rule{}, api.ErrShape
	}
	r := api.Rule{Kind: api.RuleSum, Need: most.Num*d/most.Den + 1}
	for i, share := range shares {
		r.Weights = append(r.Weights, share.Num*(d/share.Den))
		r.Parts = append(r.Parts, personNamed(holders[i]))
	}
	return r, api.OK
}

// checkShares returns the error of holders, their shares and the part of them, each one by
// itself.
func checkShares(holders []string, shares []api.Frac, most api.Frac) api.Errno {
	e := firstError(
		errorIf(len(shares) != len(holders) || len(holders) == 0, api.ErrShape),
		errorIf(len(holders) > mostHolders, api.ErrLarge),
	)
	if e != api.OK {
		return e
	}
	for i, name := range holders {
		e := firstError(
			errorIf(!isName(name), api.ErrName),
			errorIf(slices.Contains(holders[:i], name), api.ErrExists),
			errorIf(!isLowest(shares[i]), api.ErrForm),
			errorIf(shares[i].Num <= 0, api.ErrRange),
		)
		if e != api.OK {
			return e
		}
	}
	tooFine := slices.ContainsFunc(shares, isTooFine) || isTooFine(most)
	return firstError(
		errorIf(!isLowest(most), api.ErrForm),
		errorIf(!isFromTo(most.Num, 0, most.Den-1) || tooFine, api.ErrRange),
	)
}

// commonDen returns the least common denominator of shares, or a number that is too great
// if this one is.
func commonDen(shares []api.Frac) int {
	d := 1
	for _, share := range shares {
		d *= share.Den / gcd(d, share.Den)
		if d > api.MaxWeight {
			break
		}
	}
	return d
}

// addUp tells whether shares with a common denominator add up to 1.
func addUp(shares []api.Frac, d int) bool {
	total := 0
	for _, share := range shares {
		if share.Num > share.Den { // told at once: its multiple may not fit an int
			return false
		}
		total += share.Num * (d / share.Den)
	}
	return total == d
}
