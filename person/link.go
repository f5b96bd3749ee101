package person

import (
	"slices"

	"mortsafe/api"
)

const (
	maxLeast = 1000
	maxDual  = 10000
)

// gains returns for each pair of entries of two lists how much its score is above the
// least one.
func gains(a, b []api.Note, least int) ([][]int, api.Errno) {
	e := firstError(
		CheckNotes(a),
		CheckNotes(b),
		errorIf(len(a) > api.MaxLinks || len(b) > api.MaxLinks, api.ErrLarge),
		errorIf(!isFromTo(least, -maxLeast, maxLeast), api.ErrRange),
	)
	if e != api.OK {
		return nil, e
	}
	rows := make([][]int, len(a))
	for i := range rows {
		for _, n := range b {
			parts := scoreParts(a[i], n)
			rows[i] = append(rows[i], sum(parts[:]...)-least)
		}
	}
	return rows, api.OK
}

// values is the greatest values of links: of the entries of the first list from one on,
// with a set of entries of the second list, which are bits.
type values [api.MaxLinks + 1][1 << api.MaxLinks]int

func bestValues(gains [][]int) *values {
	var most values
	for i, row := range slices.Backward(gains) {
		for free := range 1 << len(row) {
			most[i][free] = most[i+1][free]
			for k, gain := range row {
				if free&(1<<k) != 0 {
					most[i][free] = max(most[i][free], gain+most[i+1][free&^(1<<k)])
				}
			}
		}
	}
	return &most
}

// pairs returns links with the greatest value. A link is taken only where the value
// would be less without it, so that its gain is above zero.
func (most *values) pairs(gains [][]int, free int) [][2]int {
	var pairs [][2]int
	for i, row := range gains {
		if most[i][free] == most[i+1][free] {
			continue
		}
		for k, gain := range row {
			if free&(1<<k) != 0 && most[i][free] == gain+most[i+1][free&^(1<<k)] {
				pairs = append(pairs, [2]int{i, k})
				free &^= 1 << k
				break
			}
		}
	}
	return pairs
}

// Link returns the best links of two lists, the dual values that prove it, and their
// value. What the value of all loses without an entry of the second list is the
// greatest dual value of this entry, and there are best dual values that have these for
// all entries of that list at once (a theorem on assignments); the other list then needs
// no more than what they leave uncovered.
func Link(a, b []api.Note, least int) (api.Linking, int, api.Errno) {
	g, e := gains(a, b, least)
	if e != api.OK {
		return api.Linking{}, 0, e
	}
	most, all := bestValues(g), 1<<len(b)-1
	value := most[0][all]
	k := api.Linking{Pairs: most.pairs(g, all), U: make([]int, len(a)), V: make([]int, len(b))}
	for i := range k.V {
		k.V[i] = value - most[0][all&^(1<<i)]
	}
	for i, row := range g {
		for j, gain := range row {
			k.U[i] = max(k.U[i], gain-k.V[j])
		}
	}
	return k, value, api.OK
}

// CheckLink returns the value of links that their dual values prove to be the best.
func CheckLink(a, b []api.Note, least int, k api.Linking) (int, api.Errno) {
	g, wrong := gains(a, b, least)
	e := firstError(
		wrong,
		errorIf(len(k.U) != len(a) || len(k.V) != len(b), api.ErrShape),
		errorIf(slices.ContainsFunc(k.U, isNoDual) || slices.ContainsFunc(k.V, isNoDual), api.ErrRange),
	)
	if e != api.OK {
		return 0, e
	}
	value := 0
	for i, p := range k.Pairs {
		if e := pairError(g, len(b), k.Pairs[:i], p); e != api.OK {
			return 0, e
		}
		value += g[p[0]][p[1]]
	}
	if sum(k.U...)+sum(k.V...) != value || !covers(k, g) {
		return 0, api.ErrProof
	}
	return value, api.OK
}

func isNoDual(n int) bool { return !isFromTo(n, 0, maxDual) }

// pairError returns the error of a pair behind others, which have none.
func pairError(gains [][]int, width int, earlier [][2]int, p [2]int) api.Errno {
	if !isNumberOf(p[0], len(gains)) || !isNumberOf(p[1], width) {
		return api.ErrMissing
	}
	last := len(earlier) - 1
	uses := func(q [2]int) bool { return q[0] == p[0] || q[1] == p[1] }
	return firstError(
		errorIf(last >= 0 && slices.Compare(p[:], earlier[last][:]) <= 0, api.ErrOrder),
		errorIf(slices.ContainsFunc(earlier, uses), api.ErrExists),
		errorIf(gains[p[0]][p[1]] <= 0, api.ErrForm),
	)
}

// covers tells whether U and V cover the gains of all pairs.
func covers(k api.Linking, gains [][]int) bool {
	for i, row := range gains {
		for j, gain := range row {
			if k.U[i]+k.V[j] < gain {
				return false
			}
		}
	}
	return true
}
