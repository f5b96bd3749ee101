package ground

import (
	"iter"
	"slices"

	"mortsafe/api"
)

// Where a place is, as Where tells it.
const (
	outside = iota - 1
	border
	inside
)

const leastCorners = 3

type polygon []place

func polygonOf(p []api.Point) polygon {
	corners := make(polygon, len(p))
	for i, c := range p {
		corners[i] = placeOf(c)
	}
	return corners
}

// sides yields the sides with their numbers.
func (p polygon) sides(yield func(int, side) bool) {
	for i, from := range p {
		if !yield(i, side{from, p[(i+1)%len(p)]}) {
			return
		}
	}
}

// pieces yields the parts into which the corners of q cut the sides. If no side
// of p crosses one of q, each piece without its ends is inside of q, outside of
// it, or on its border as a whole.
func (p polygon) pieces(q polygon) iter.Seq[side] {
	return func(yield func(side) bool) {
		for _, s := range p.sides {
			cuts := s.cuts(q)
			for i, to := range cuts[1:] {
				if !yield(side{cuts[i], to}) {
					return
				}
			}
		}
	}
}

func (p polygon) area() int {
	var terms []int
	for _, s := range p.sides {
		terms = append(terms, s.from[0]*s.to[1]-s.from[1]*s.to[0])
	}
	return sum(terms...)
}

// where counts how often the border runs round a place. A side counts its lower end
// but not its upper one, so that a corner on the place's level counts once.
func (p polygon) where(q place) int {
	rounds := 0
	for _, s := range p.sides {
		switch {
		case s.holds(q):
			return border
		case s.from[1] <= q[1] && q[1] < s.to[1] && s.left(q) > 0:
			rounds++
		case s.to[1] <= q[1] && q[1] < s.from[1] && s.left(q) < 0:
			rounds--
		}
	}
	if rounds == 0 {
		return outside
	}
	return inside
}

func (p polygon) twice() polygon {
	corners := make(polygon, len(p))
	for i, c := range p {
		corners[i] = place{2 * c[0], 2 * c[1]}
	}
	return corners
}

// lies returns the condition that a place, told with doubled coordinates, is inside,
// outside or on the border.
func (p polygon) lies(where int) func(place) bool {
	corners := p.twice()
	return func(doubled place) bool { return corners.where(doubled) == where }
}

// hasPiece reports whether the middle of some piece of p meets a condition.
func (p polygon) hasPiece(q polygon, is func(place) bool) bool {
	for s := range p.pieces(q) {
		if is(s.middle()) {
			return true
		}
	}
	return false
}

func (p polygon) crosses(q polygon) bool {
	for _, s := range p.sides {
		for _, t := range q.sides {
			if s.crosses(t) {
				return true
			}
		}
	}
	return false
}

// within needs the border of p alone: a polygon has no holes, so what is inside
// of a border within q is within q, too.
func (p polygon) within(q polygon) bool {
	return !p.crosses(q) && !p.hasPiece(q, q.lies(outside))
}

// overlaps: if no border goes through the other one's inside, the two insides are
// apart or one and the same.
func (p polygon) overlaps(q polygon) bool {
	return p.crosses(q) || p.hasPiece(q, q.lies(inside)) || q.hasPiece(p, p.lies(inside)) || p.within(q)
}

func (p polygon) common(q polygon) []api.Segment {
	var l []api.Segment
	for _, s := range p.sides {
		for _, t := range q.sides {
			if part, more := s.common(t); more {
				l = append(l, api.Segment{A: part.from.point(), B: part.to.point()})
			}
		}
	}
	return l
}

func (p polygon) repeats() bool {
	for i, c := range p {
		if slices.Contains(p[:i], c) {
			return true
		}
	}
	return false
}

func (p polygon) tangled() bool {
	for i, s := range p.sides {
		for k, t := range p.sides {
			if i < k && p.clash(i, k, s, t) {
				return true
			}
		}
	}
	return false
}

// clash reports whether two sides, the i-th and the k-th one, have more in common
// than they may; i is less than k.
func (p polygon) clash(i, k int, s, t side) bool {
	if k == i+1 || i == 0 && k == len(p)-1 {
		_, more := s.common(t)
		return more
	}
	return s.meets(t)
}

// CheckPolygon tells whether a list of corners is a polygon: from 3 to
// api.MaxCorners different corners, counterclockwise, and sides that do not meet
// but at corners of neighbours.
func CheckPolygon(p []api.Point) api.Errno {
	if len(p) < leastCorners || len(p) > api.MaxCorners {
		return api.ErrShape
	}
	for _, c := range p {
		if e := errorOfPoint(c); e != api.OK {
			return e
		}
	}
	corners := polygonOf(p)
	switch {
	case corners.repeats():
		return api.ErrExists
	case corners.tangled():
		return api.ErrForm
	case corners.area() <= 0:
		return api.ErrOrder
	}
	return api.OK
}

// Area returns the doubled area.
func Area(p []api.Point) (int, api.Errno) {
	if e := CheckPolygon(p); e != api.OK {
		return 0, e
	}
	return polygonOf(p).area(), api.OK
}

// Where returns 1 for a point inside of a polygon, 0 for one on its border, and
// -1 for one outside.
func Where(p []api.Point, q api.Point) (int, api.Errno) {
	if e := firstError(CheckPolygon(p), errorOfPoint(q)); e != api.OK {
		return 0, e
	}
	return polygonOf(p).where(placeOf(q)), api.OK
}

// Overlap reports whether some point is inside of both polygons.
func Overlap(a, b []api.Point) (bool, api.Errno) {
	if e := firstError(CheckPolygon(a), CheckPolygon(b)); e != api.OK {
		return false, e
	}
	return polygonOf(a).overlaps(polygonOf(b)), api.OK
}

// Within reports whether no point of a is outside of b.
func Within(a, b []api.Point) (bool, api.Errno) {
	if e := firstError(CheckPolygon(a), CheckPolygon(b)); e != api.OK {
		return false, e
	}
	return polygonOf(a).within(polygonOf(b)), api.OK
}

// Border returns the common border of two polygons that do not overlap, side by
// side of the first one.
func Border(a, b []api.Point) ([]api.Segment, api.Errno) {
	if e := firstError(CheckPolygon(a), CheckPolygon(b)); e != api.OK {
		return nil, e
	}
	p, q := polygonOf(a), polygonOf(b)
	if p.overlaps(q) {
		return nil, api.ErrClash
	}
	return p.common(q), api.OK
}
