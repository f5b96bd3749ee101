package ground

import (
	"slices"

	"mortsafe/api"
)

const (
	maxDifference  = 100000
	maxWeight      = 10
	maxLoop        = 100
	maxHeight      = 2000000
	maxDenominator = 4000000000
)

// CheckNet tells whether levelled differences are a net of the points 0, 1, ..
func CheckNet(points int, l []api.Levelling) api.Errno {
	if points < 1 || points > api.MaxLevelled {
		return api.ErrRange
	}
	if len(l) > api.MaxLevellings {
		return api.ErrLarge
	}
	for _, d := range l {
		if e := errorOfDifference(points, d); e != api.OK {
			return e
		}
	}
	if !hangTogether(points, l) {
		return api.ErrOpen
	}
	return api.OK
}

func errorOfDifference(points int, d api.Levelling) api.Errno {
	switch {
	case d.From < 0 || d.From >= points || d.To < 0 || d.To >= points:
		return api.ErrMissing
	case d.From == d.To:
		return api.ErrForm
	case greaterInSize(d.Diff, maxDifference) || d.Weight < 1 || d.Weight > maxWeight:
		return api.ErrRange
	}
	return api.OK
}

// hangTogether goes over the differences once for each point: each time, at least
// one more point is reached, or none is left that can be.
func hangTogether(points int, l []api.Levelling) bool {
	reached := make([]bool, points)
	reached[0] = true
	for range points {
		for _, d := range l {
			if reached[d.From] || reached[d.To] {
				reached[d.From], reached[d.To] = true, true
			}
		}
	}
	return !slices.Contains(reached, false)
}

// Heights returns the heights of a net by least squares, in lowest terms.
func Heights(points int, l []api.Levelling) ([]api.Frac, api.Errno) {
	if e := CheckNet(points, l); e != api.OK {
		return nil, e
	}
	columns, right := equations(points, l)
	whole := determinant(columns)
	heights := []api.Frac{{Num: 0, Den: 1}}
	for k := range columns {
		replaced := slices.Clone(columns)
		replaced[k] = right
		heights = append(heights, lowest(determinant(replaced), whole))
	}
	return heights, api.OK
}

// equations returns the columns of the equations for the heights of the points
// from 1 on, and their right sides. They say that at each point the weighted
// residuals of the differences that end there add up to those of the ones that
// begin there; the equation of point 0 follows from the others.
func equations(points int, l []api.Levelling) ([][]int, []int) {
	columns := make([][]int, points)
	for i := range columns {
		columns[i] = make([]int, points)
	}
	right := make([]int, points)
	for _, d := range l {
		columns[d.From][d.From] += d.Weight
		columns[d.To][d.To] += d.Weight
		columns[d.From][d.To] -= d.Weight
		columns[d.To][d.From] -= d.Weight
		right[d.To] += d.Weight * d.Diff
		right[d.From] -= d.Weight * d.Diff
	}
	return without(0, columns[1:]), right[1:]
}

// determinant expands along the first column. Without any division the numbers
// stay below 5! times 200 to the power of 4 (weights) times 20000000 (weighted
// differences), which is below 2^63.
func determinant(columns [][]int) int {
	if len(columns) == 0 {
		return 1
	}
	var terms []int
	sign := 1
	for row, x := range columns[0] {
		terms = append(terms, sign*x*determinant(without(row, columns[1:])))
		sign = -sign
	}
	return sum(terms...)
}

// without returns columns without one of their rows.
func without(row int, columns [][]int) [][]int {
	rest := make([][]int, len(columns))
	for i, c := range columns {
		rest[i] = slices.Concat(c[:row], c[row+1:])
	}
	return rest
}

// commonDenominator returns the least common multiple of the denominators of
// heights, or the error of the heights.
func commonDenominator(points int, heights []api.Frac) (int, api.Errno) {
	if len(heights) != points {
		return 0, api.ErrShape
	}
	common := 1
	for _, h := range heights {
		if e := errorOfHeight(h); e != api.OK {
			return 0, e
		}
		factor := h.Den / gcd(common, h.Den)
		if factor > maxDenominator/common {
			return 0, api.ErrLarge
		}
		common *= factor
	}
	return common, api.OK
}

// errorOfHeight compares quotient and remainder, because the greatest height times
// any denominator may be too large.
func errorOfHeight(h api.Frac) api.Errno {
	if h.Den < 1 || gcd(h.Num, h.Den) != 1 {
		return api.ErrForm
	}
	whole, rest := h.Num/h.Den, h.Num%h.Den
	if greaterInSize(whole, maxHeight) || greaterInSize(whole, maxHeight-1) && rest != 0 {
		return api.ErrRange
	}
	return api.OK
}

// residuals returns the residuals times a common denominator of the heights.
func residuals(l []api.Levelling, heights []api.Frac, common int) []int {
	scaled := make([]int, len(heights))
	for i, h := range heights {
		scaled[i] = h.Num * (common / h.Den)
	}
	list := make([]int, len(l))
	for i, d := range l {
		list[i] = sum(d.Diff*common, -scaled[d.To], scaled[d.From])
	}
	return list
}

// Residuals returns the residuals of the differences of a net for some heights, in
// lowest terms.
func Residuals(points int, l []api.Levelling, heights []api.Frac) ([]api.Frac, api.Errno) {
	if e := CheckNet(points, l); e != api.OK {
		return nil, e
	}
	common, e := commonDenominator(points, heights)
	if e != api.OK {
		return nil, e
	}
	var list []api.Frac
	for _, r := range residuals(l, heights, common) {
		list = append(list, lowest(r, common))
	}
	return list, api.OK
}

// CheckHeights tells whether heights are those of a net; beside api.ErrProof it
// returns the first point at which they are not.
func CheckHeights(points int, l []api.Levelling, heights []api.Frac) (int, api.Errno) {
	if e := CheckNet(points, l); e != api.OK {
		return 0, e
	}
	common, e := commonDenominator(points, heights)
	if e != api.OK {
		return 0, e
	}
	if heights[0].Num != 0 {
		return 0, api.ErrProof
	}
	excess := make([]int, points)
	for i, r := range residuals(l, heights, common) {
		excess[l[i].To] += l[i].Weight * r
		excess[l[i].From] -= l[i].Weight * r
	}
	for i := 1; i < points; i++ {
		if excess[i] != 0 {
			return i, api.ErrProof
		}
	}
	return 0, api.OK
}

// Misclosure returns the sum of the differences of a loop.
func Misclosure(points int, l []api.Levelling, loop []int) (int, api.Errno) {
	if e := CheckNet(points, l); e != api.OK {
		return 0, e
	}
	if len(loop) < 1 || len(loop) > maxLoop {
		return 0, api.ErrShape
	}
	for _, n := range loop {
		if n == 0 || greaterInSize(n, len(l)) {
			return 0, api.ErrMissing
		}
	}
	var terms []int
	at := run(l, loop[len(loop)-1]).To
	for _, n := range loop {
		d := run(l, n)
		if d.From != at {
			return 0, api.ErrOpen
		}
		at = d.To
		terms = append(terms, d.Diff)
	}
	return sum(terms...), api.OK
}

// run returns the difference with a number of a loop, in the direction of the loop.
func run(l []api.Levelling, n int) api.Levelling {
	if n > 0 {
		return l[n-1]
	}
	d := l[-n-1]
	d.From, d.To, d.Diff = d.To, d.From, -d.Diff
	return d
}
