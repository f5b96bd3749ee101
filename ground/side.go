package ground

import (
	"cmp"
	"slices"

	"mortsafe/api"
)

// place is a point as X and Y in an array.
type place [2]int

func placeOf(q api.Point) place { return place{q.X, q.Y} }

func (q place) point() api.Point { return api.Point{X: q[0], Y: q[1]} }

func errorOfPoint(q api.Point) api.Errno {
	for _, c := range placeOf(q) {
		if greaterInSize(c, api.MaxPlace) {
			return api.ErrRange
		}
	}
	return api.OK
}

// side is from a place to another one; they differ.
type side struct{ from, to place }

// left is above 0 for a place to the left of the side's line, below 0 for one to
// the right, and 0 for one on it.
func (s side) left(q place) int {
	return (s.to[0]-s.from[0])*(q[1]-s.from[1]) - (s.to[1]-s.from[1])*(q[0]-s.from[0])
}

// along grows from the beginning of the side to its end.
func (s side) along(q place) int {
	return (s.to[0]-s.from[0])*(q[0]-s.from[0]) + (s.to[1]-s.from[1])*(q[1]-s.from[1])
}

// compare orders places on the line of the side, in its direction.
func (s side) compare(a, b place) int { return cmp.Compare(s.along(a), s.along(b)) }

func (s side) holds(q place) bool {
	return s.left(q) == 0 && s.compare(s.from, q) <= 0 && s.compare(q, s.to) <= 0
}

// crosses reports whether two sides, both without their ends, have one point in
// common.
func (s side) crosses(t side) bool {
	return opposite(s.left(t.from), s.left(t.to)) && opposite(t.left(s.from), t.left(s.to))
}

// opposite compares signs only: a product of two areas could be too large.
func opposite(a, b int) bool { return a < 0 && b > 0 || a > 0 && b < 0 }

func (s side) meets(t side) bool {
	return s.crosses(t) || s.holds(t.from) || s.holds(t.to) || t.holds(s.from) || t.holds(s.to)
}

// common returns the common part of two sides, in the direction of s, and whether
// it is more than a point.
func (s side) common(t side) (side, bool) {
	if s.left(t.from) != 0 || s.left(t.to) != 0 {
		return side{}, false
	}
	first, last := t.from, t.to
	if s.compare(first, last) > 0 {
		first, last = last, first
	}
	first = slices.MaxFunc([]place{s.from, first}, s.compare)
	last = slices.MinFunc([]place{s.to, last}, s.compare)
	return side{first, last}, s.compare(first, last) < 0
}

// cuts returns the ends of the side and the corners on it, in its order.
func (s side) cuts(corners polygon) []place {
	l := []place{s.from, s.to}
	for _, c := range corners {
		if s.holds(c) {
			l = append(l, c)
		}
	}
	slices.SortFunc(l, s.compare)
	return slices.Compact(l)
}

// middle returns twice the middle of the side, which is whole where the middle
// itself may not be.
func (s side) middle() place {
	return place{s.from[0] + s.to[0], s.from[1] + s.to[1]}
}
