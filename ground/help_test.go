package ground_test

import (
	"math/big"
	"math/rand"
	"slices"
	"strings"
	"testing"

	"mortsafe/api"
	"mortsafe/ground"
)

const (
	least = -1 << 63
	most  = 1<<63 - 1
)

// points makes points of X and Y, one after the other.
func points(c ...int) []api.Point {
	var l []api.Point
	for i := 0; i < len(c); i += 2 {
		l = append(l, api.Point{X: c[i], Y: c[i+1]})
	}
	return l
}

// box is a rectangle from one corner to the opposite one.
func box(x1, y1, x2, y2 int) []api.Point {
	return points(x1, y1, x2, y1, x2, y2, x1, y2)
}

// comb is a polygon with n corners: a bar with teeth on it.
func comb(n, right, up int) []api.Point {
	l := points(0, 0, 2*(n-3), 0)
	for i := range n - 2 {
		l = append(l, api.Point{X: 2 * (n - 3 - i), Y: 2 + 3*(i%2)})
	}
	return moved(l, right, up)
}

func moved(p []api.Point, right, up int) []api.Point {
	l := slices.Clone(p)
	for i := range l {
		l[i].X += right
		l[i].Y += up
	}
	return l
}

func reversed[T any](l []T) []T {
	l = slices.Clone(l)
	slices.Reverse(l)
	return l
}

// anyPolygons makes polygons with small coordinates, so that common corners, sides
// and pieces of sides are frequent.
func anyPolygons(t *testing.T, seed int64, n int) [][]api.Point {
	t.Helper()
	r := rand.New(rand.NewSource(seed))
	var l [][]api.Point
	for len(l) < n {
		var p []api.Point
		for range 3 + r.Intn(5) {
			p = append(p, api.Point{X: r.Intn(5), Y: r.Intn(5)})
		}
		if ground.CheckPolygon(p) == api.OK {
			l = append(l, p)
		}
	}
	return l
}

func mustArea(t *testing.T, p []api.Point) int {
	t.Helper()
	n, e := ground.Area(p)
	if e != api.OK {
		t.Fatal(p, e)
	}
	return n
}

func mustWithin(t *testing.T, a, b []api.Point) bool {
	t.Helper()
	is, e := ground.Within(a, b)
	if e != api.OK {
		t.Fatal(a, b, e)
	}
	return is
}

func mustOverlap(t *testing.T, a, b []api.Point) bool {
	t.Helper()
	is, e := ground.Overlap(a, b)
	if e != api.OK {
		t.Fatal(a, b, e)
	}
	return is
}

// spot is a point with fractions as coordinates.
type spot struct{ x, y *big.Rat }

func spots(p []api.Point) []spot {
	var l []spot
	for _, c := range p {
		l = append(l, spot{big.NewRat(int64(c.X), 1), big.NewRat(int64(c.Y), 1)})
	}
	return l
}

func minus(a, b *big.Rat) *big.Rat { return new(big.Rat).Sub(a, b) }
func times(a, b *big.Rat) *big.Rat { return new(big.Rat).Mul(a, b) }
func plus(a, b *big.Rat) *big.Rat  { return new(big.Rat).Add(a, b) }

func leftOf(a, b, c spot) *big.Rat {
	return minus(times(minus(b.x, a.x), minus(c.y, a.y)), times(minus(b.y, a.y), minus(c.x, a.x)))
}

// cut leaves what a convex shape has to the left of the line from a to b.
func cut(shape []spot, a, b spot) []spot {
	var l []spot
	for i, c := range shape {
		d := shape[(i+1)%len(shape)]
		u, v := leftOf(a, b, c), leftOf(a, b, d)
		if u.Sign() >= 0 {
			l = append(l, c)
		}
		if u.Sign()*v.Sign() < 0 {
			f := new(big.Rat).Quo(u, minus(u, v))
			l = append(l, spot{plus(c.x, times(f, minus(d.x, c.x))), plus(c.y, times(f, minus(d.y, c.y)))})
		}
	}
	return l
}

func areaOf(shape []spot) *big.Rat {
	n := new(big.Rat)
	for i, c := range shape {
		d := shape[(i+1)%len(shape)]
		n = plus(n, minus(times(c.x, d.y), times(c.y, d.x)))
	}
	return n
}

// commonArea computes the doubled area that two polygons have in common, from the
// triangles between point (0, 0) and each side, counted with their signs.
func commonArea(a, b []api.Point) *big.Rat {
	total := new(big.Rat)
	p, q := spots(a), spots(b)
	for i := range p {
		s, f := fan(p[i], p[(i+1)%len(p)])
		for k := range q {
			u, g := fan(q[k], q[(k+1)%len(q)])
			if f*g == 0 {
				continue
			}
			rest := s
			for m := range u {
				rest = cut(rest, u[m], u[(m+1)%3])
			}
			total = plus(total, times(big.NewRat(int64(f*g), 1), areaOf(rest)))
		}
	}
	return total
}

// fan returns the triangle of a side and (0, 0), counterclockwise, and its sign.
func fan(a, b spot) ([]spot, int) {
	o := spot{new(big.Rat), new(big.Rat)}
	sign := leftOf(o, a, b).Sign()
	if sign < 0 {
		a, b = b, a
	}
	return []spot{o, a, b}, sign
}

// name makes a name of a number; names of greater numbers are greater.
func name(n int) string {
	return "n" + strings.Repeat("z", n/26) + string(rune('a'+n%26))
}

func ratOf(f api.Frac) *big.Rat { return big.NewRat(int64(f.Num), int64(f.Den)) }

func fracOf(t *testing.T, r *big.Rat) api.Frac {
	t.Helper()
	if !r.Num().IsInt64() || !r.Denom().IsInt64() {
		t.Fatal(r)
	}
	return api.Frac{Num: int(r.Num().Int64()), Den: int(r.Denom().Int64())}
}
