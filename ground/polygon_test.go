package ground_test

import (
	"math/big"
	"slices"
	"testing"

	"mortsafe/api"
	"mortsafe/ground"
)

// P1.1: each error of CheckPolygon, and that an earlier one goes before later ones.
func TestCheckPolygon(t *testing.T) {
	for _, c := range []struct {
		what string
		p    []api.Point
		want api.Errno
	}{
		{"nothing", nil, api.ErrShape},
		{"empty", []api.Point{}, api.ErrShape},
		{"two corners", points(0, 0, 1, 0), api.ErrShape},
		{"41 corners", comb(41, 0, 0), api.ErrShape},
		{"two corners out of range", points(0, 0, 100001, 0), api.ErrShape},
		{"three corners", points(0, 0, 1, 0, 0, 1), api.OK},
		{"40 corners", comb(40, 0, 0), api.OK},
		{"greatest coordinates", box(-100000, -100000, 100000, 100000), api.OK},
		{"x too great", points(0, 0, 100001, 0, 0, 1), api.ErrRange},
		{"x too small", points(0, 0, 1, 0, -100001, 1), api.ErrRange},
		{"y too great", points(0, 0, 1, 0, 0, 100001), api.ErrRange},
		{"y too small", points(0, -100001, 1, 0, 0, 1), api.ErrRange},
		{"least and greatest numbers", points(least, most, most, least, 0, 0), api.ErrRange},
		{"out of range and there twice", points(0, 0, 0, 0, 100001, 0), api.ErrRange},
		{"the first corner twice", points(0, 0, 1, 0, 1, 1, 0, 0), api.ErrExists},
		{"neighbours equal", points(0, 0, 1, 0, 1, 0, 0, 1), api.ErrExists},
		{"there twice and crossing", points(0, 0, 4, 0, 0, 4, 4, 4, 4, 0), api.ErrExists},
		{"crossing sides", points(0, 0, 4, 0, 0, 4, 4, 4), api.ErrForm},
		{"crossing sides, the other way", points(0, 0, 4, 4, 0, 4, 4, 0), api.ErrForm},
		{"a corner on a side", points(0, 0, 4, 0, 4, 4, 2, 0, 0, 4), api.ErrForm},
		{"first corner on a side", points(2, 0, 0, 4, 0, 0, 4, 0, 4, 4), api.ErrForm},
		{"sides of one line that overlap", points(0, 0, 6, 0, 6, 2, 5, 2, 5, 0, 1, 0, 1, 2, 0, 2), api.ErrForm},
		{"turns back", points(0, 0, 4, 0, 2, 0), api.ErrForm},
		{"turns back at the first corner", points(2, 0, 4, 0, 4, 4, 6, 0), api.ErrForm},
		{"turns back in a spike", points(0, 0, 4, 0, 6, 0, 4, 0, 4, 4), api.ErrExists},
		{"turns back beyond", points(0, 0, 6, 0, 4, 0, 4, 4, 0, 4), api.ErrForm},
		{"a line", points(0, 0, 1, 1, 2, 2), api.ErrForm},
		{"goes straight on", points(0, 0, 2, 0, 4, 0, 4, 4), api.OK},
		{"goes straight on at the first corner", points(2, 0, 4, 0, 4, 4, 0, 0), api.OK},
		{"clockwise", points(0, 0, 0, 4, 4, 0), api.ErrOrder},
		{"clockwise, 40 corners", reversed(comb(40, 0, 0)), api.ErrOrder},
		{"greatest and clockwise", reversed(box(-100000, -100000, 100000, 100000)), api.ErrOrder},
		{"crossing and clockwise", points(4, 4, 0, 4, 4, 0, 0, 0), api.ErrForm},
	} {
		if e := ground.CheckPolygon(c.p); e != c.want {
			t.Error(c.what, c.p, e, "not", c.want)
		}
		for i := range c.p { // with the corners from another one on
			p := slices.Concat(c.p[i:], c.p[:i])
			if e := ground.CheckPolygon(p); e != c.want {
				t.Error(c.what, p, e, "not", c.want)
			}
		}
	}
}

// touch computes with fractions whether two sides have a point in common, and
// whether more than one.
func touch(a, b, c, d spot) (bool, bool) {
	ux, uy, vx, vy := minus(b.x, a.x), minus(b.y, a.y), minus(d.x, c.x), minus(d.y, c.y)
	wx, wy := minus(c.x, a.x), minus(c.y, a.y)
	one := big.NewRat(1, 1)
	if n := minus(times(ux, vy), times(uy, vx)); n.Sign() != 0 {
		f := new(big.Rat).Quo(minus(times(wx, vy), times(wy, vx)), n)
		g := new(big.Rat).Quo(minus(times(wx, uy), times(wy, ux)), n)
		return f.Sign() >= 0 && f.Cmp(one) <= 0 && g.Sign() >= 0 && g.Cmp(one) <= 0, false
	}
	if minus(times(wx, uy), times(wy, ux)).Sign() != 0 {
		return false, false
	}
	size := plus(times(ux, ux), times(uy, uy))
	f := new(big.Rat).Quo(plus(times(wx, ux), times(wy, uy)), size)
	g := plus(f, new(big.Rat).Quo(plus(times(vx, ux), times(vy, uy)), size))
	if f.Cmp(g) > 0 {
		f, g = g, f
	}
	if f.Sign() < 0 {
		f = new(big.Rat)
	}
	if g.Cmp(one) > 0 {
		g = one
	}
	return f.Cmp(g) <= 0, f.Cmp(g) < 0
}

// wrongForm tells by definition what ErrForm says.
func wrongForm(p []api.Point) bool {
	l := spots(p)
	n := len(l)
	for i := range n {
		for k := range i {
			one, more := touch(l[i], l[(i+1)%n], l[k], l[(k+1)%n])
			beside := i == k+1 || (i+1)%n == k
			if more || one && !beside {
				return true
			}
		}
	}
	return false
}

// P1.1: all lists of four different points of a small grid.
func TestCheckPolygonOfAllSquares(t *testing.T) {
	var grid []api.Point
	for i := range 12 {
		grid = append(grid, api.Point{X: i % 4, Y: i / 4})
	}
	for i := range 12 * 12 * 12 * 12 {
		p := []api.Point{grid[i%12], grid[i/12%12], grid[i/144%12], grid[i/1728]}
		want := api.OK
		switch {
		case slices.Contains(p[:1], p[1]) || slices.Contains(p[:2], p[2]) || slices.Contains(p[:3], p[3]):
			want = api.ErrExists
		case wrongForm(p):
			want = api.ErrForm
		case areaOf(spots(p)).Sign() <= 0:
			want = api.ErrOrder
		}
		if e := ground.CheckPolygon(p); e != want {
			t.Fatal(p, e, "not", want)
		}
	}
}

// P1.1: Area, with the example of the chapter.
func TestArea(t *testing.T) {
	for _, c := range []struct {
		p    []api.Point
		want int
		err  api.Errno
	}{
		{box(0, 0, 100, 100), 20000, api.OK},
		{box(0, 0, 50, 100), 10000, api.OK},
		{box(50, 0, 100, 50), 5000, api.OK},
		{points(0, 0, 1, 0, 0, 1), 1, api.OK},
		{box(-100000, -100000, 100000, 100000), 80000000000, api.OK},
		{points(0, 0, 1, 0), 0, api.ErrShape},
		{points(0, 0, 0, 1, 1, 0), 0, api.ErrOrder},
	} {
		if n, e := ground.Area(c.p); n != c.want || e != c.err {
			t.Error(c, n, e)
		}
	}
}

// P1.1: Where, also on a level with corners, and its errors in their order.
func TestWhere(t *testing.T) {
	star := points(0, 0, 4, 2, 8, 0, 6, 4, 8, 8, 4, 6, 0, 8, 2, 4)
	for _, c := range []struct {
		p    []api.Point
		x, y int
		want int
		err  api.Errno
	}{
		{star, 4, 4, 1, api.OK},
		{star, 3, 4, 1, api.OK},
		{star, 2, 4, 0, api.OK},
		{star, 1, 4, -1, api.OK},
		{star, 7, 4, -1, api.OK},
		{star, -1, 0, -1, api.OK},
		{star, 4, 0, -1, api.OK},
		{star, 9, 0, -1, api.OK},
		{star, -1, 8, -1, api.OK},
		{star, 4, 8, -1, api.OK},
		{star, 4, 2, 0, api.OK},
		{star, 3, 2, 1, api.OK},
		{star, 2, 1, 0, api.OK},
		{star, 8, 8, 0, api.OK},
		{box(0, 0, 4, 4), 2, 0, 0, api.OK},
		{box(0, 0, 4, 4), 5, 0, -1, api.OK},
		{box(0, 0, 4, 4), -1, 4, -1, api.OK},
		{box(0, 0, 4, 4), 100000, -100000, -1, api.OK},
		{box(0, 0, 4, 4), 100001, 0, 0, api.ErrRange},
		{box(0, 0, 4, 4), 0, -100001, 0, api.ErrRange},
		{box(0, 0, 4, 4), least, most, 0, api.ErrRange},
		{points(0, 0, 0, 4, 4, 0), 100001, 0, 0, api.ErrOrder},
		{nil, 100001, 0, 0, api.ErrShape},
	} {
		if n, e := ground.Where(c.p, api.Point{X: c.x, Y: c.y}); n != c.want || e != c.err {
			t.Error(c, n, e)
		}
	}
}

// P1.1: a point is where a tiny square round it, in a polygon drawn larger, says.
func TestWhereOfAnyPolygons(t *testing.T) {
	for _, p := range anyPolygons(t, 11, 50) {
		large := slices.Clone(p)
		for i := range large {
			large[i].X *= 1000
			large[i].Y *= 1000
		}
		for i := range 36 {
			q := api.Point{X: i%6 - 1, Y: i/6 - 1}
			tiny := box(1000*q.X-1, 1000*q.Y-1, 1000*q.X+1, 1000*q.Y+1)
			want := 0
			switch commonArea(tiny, large).Cmp(big.NewRat(8, 1)) {
			case 0:
				want = 1
			default:
				if commonArea(tiny, large).Sign() == 0 {
					want = -1
				}
			}
			if n, e := ground.Where(p, q); n != want || e != api.OK {
				t.Fatal(p, q, n, e, "not", want)
			}
		}
	}
}

// P1.2: Overlap and Within of polygons that touch in all sorts of ways.
func TestTwoPolygons(t *testing.T) {
	yard := points(0, 0, 6, 0, 6, 6, 4, 6, 4, 2, 2, 2, 2, 6, 0, 6)
	cross := points(2, 0, 4, 0, 4, 2, 6, 2, 6, 4, 4, 4, 4, 6, 2, 6, 2, 4, 0, 4, 0, 2, 2, 2)
	for _, c := range []struct {
		what            string
		a, b            []api.Point
		overlap, ab, ba bool
	}{
		{"equal", yard, yard, true, true, true},
		{"equal, from another corner", box(0, 0, 4, 4), points(4, 4, 0, 4, 0, 0, 4, 0), true, true, true},
		{"equal, with more corners", box(0, 0, 4, 4), points(0, 0, 1, 0, 4, 0, 4, 4, 0, 4, 0, 2), true, true, true},
		{"apart", box(0, 0, 1, 1), box(2, 2, 3, 3), false, false, false},
		{"touching at a corner", box(0, 0, 1, 1), box(1, 1, 3, 3), false, false, false},
		{"touching at a side", box(0, 0, 1, 4), box(1, 1, 3, 3), false, false, false},
		{"touching with a corner", box(0, 0, 1, 4), points(1, 2, 3, 0, 3, 4), false, false, false},
		{"the notch of a yard", box(2, 2, 4, 6), yard, false, false, false},
		{"more than the notch", box(2, 1, 4, 6), yard, true, false, false},
		{"the bar of a yard", box(0, 0, 6, 2), yard, true, true, false},
		{"across the arms", box(0, 3, 6, 5), yard, true, false, false},
		{"over the corners of the notch", points(2, 2, 4, 2, 6, 6, 0, 6), yard, true, false, false},
		{"deep inside", box(1, 1, 2, 2), box(0, 0, 4, 4), true, true, false},
		{"inside, at the border", box(0, 0, 2, 2), box(0, 0, 4, 4), true, true, false},
		{"inside, corners on the border", points(2, 0, 4, 2, 2, 4, 0, 2), box(0, 0, 4, 4), true, true, false},
		{"crossing bars", box(0, 1, 4, 2), box(1, 0, 2, 4), true, false, false},
		{"crossing at corners alone", points(0, 0, 4, 0, 4, 4, 0, 4, 2, 2), points(0, 2, 2, 2, 2, 4, 0, 4), true, false, false},
		{"a corner of each in the other", box(0, 0, 2, 2), box(1, 1, 3, 3), true, false, false},
		{"through all corners", cross, points(0, 0, 6, 0, 6, 6, 0, 6), true, true, false},
		{"the corner of a cross", box(0, 0, 2, 2), cross, false, false, false},
		{"the whole width", box(0, 2, 6, 4), cross, true, true, false},
		{"a way between two corners", points(2, 2, 4, 4, 3, 6), cross, true, true, false},
		{"half a square", points(0, 0, 4, 0, 4, 4), box(0, 0, 4, 4), true, true, false},
		{"both halves", points(0, 0, 4, 0, 4, 4), points(0, 0, 4, 4, 0, 4), false, false, false},
		{"the greatest halves", points(-100000, -99999, 100000, 100000, -100000, 100000), points(-100000, -100000, 100000, -100000, 100000, 99999), false, false, false},
		{"a sliver in common", points(-100000, -100000, 100000, 99999, -100000, 100000), points(-100000, -100000, 100000, -100000, 100000, 100000), true, false, false},
		{"middles that are no points", points(0, 0, 1, 0, 1, 1), points(0, 0, 1, 1, 0, 1), false, false, false},
	} {
		if mustOverlap(t, c.a, c.b) != c.overlap || mustOverlap(t, c.b, c.a) != c.overlap {
			t.Error("Overlap:", c.what)
		}
		if mustWithin(t, c.a, c.b) != c.ab || mustWithin(t, c.b, c.a) != c.ba {
			t.Error("Within:", c.what)
		}
	}
}

// P1.2: the area that polygons have in common tells the same.
func TestTwoPolygonsByArea(t *testing.T) {
	l := anyPolygons(t, 12, 45)
	for _, a := range l {
		for _, b := range l {
			n := commonArea(a, b)
			if mustOverlap(t, a, b) != (n.Sign() > 0) {
				t.Fatal("Overlap", a, b, n)
			}
			if mustWithin(t, a, b) != (n.Cmp(areaOf(spots(a))) == 0) {
				t.Fatal("Within", a, b, n)
			}
		}
	}
}

// P1.2: the common border in its order, from the end nearer to the beginning of the
// first one's side, with the example of the chapter.
func TestBorder(t *testing.T) {
	seg := func(c ...int) []api.Segment {
		var l []api.Segment
		p := points(c...)
		for i := 0; i < len(p); i += 2 {
			l = append(l, api.Segment{A: p[i], B: p[i+1]})
		}
		return l
	}
	yard := points(0, 0, 6, 0, 6, 6, 4, 6, 4, 2, 2, 2, 2, 6, 0, 6)
	for _, c := range []struct {
		what string
		a, b []api.Point
		want []api.Segment
	}{
		{"the example", box(0, 0, 50, 100), box(50, 0, 100, 50), seg(50, 0, 50, 50)},
		{"the example, turned", box(50, 0, 100, 50), box(0, 0, 50, 100), seg(50, 50, 50, 0)},
		{"apart", box(0, 0, 1, 1), box(2, 0, 3, 1), nil},
		{"a corner", box(0, 0, 1, 1), box(1, 1, 2, 2), nil},
		{"a corner, sides of one line", box(0, 0, 1, 1), box(1, -1, 2, 0), nil},
		{"a corner on a side", box(0, 0, 1, 4), points(1, 2, 3, 0, 3, 4), nil},
		{"the middle of a side", box(0, 0, 1, 4), box(1, 1, 2, 3), seg(1, 1, 1, 3)},
		{"more than a side", box(0, 1, 1, 3), box(1, 0, 2, 4), seg(1, 1, 1, 3)},
		{"beyond the beginning", box(0, 1, 1, 3), box(1, 0, 2, 2), seg(1, 1, 1, 2)},
		{"beyond the end", box(0, 1, 1, 3), box(1, 2, 2, 4), seg(1, 2, 1, 3)},
		{"three sides of a notch", yard, box(2, 2, 4, 6), seg(4, 6, 4, 2, 4, 2, 2, 2, 2, 2, 2, 6)},
		{"a notch, the other way", box(2, 2, 4, 6), yard, seg(2, 2, 4, 2, 4, 2, 4, 6, 2, 6, 2, 2)},
		{"straight corners of the second one", box(0, 0, 1, 4), points(1, 0, 2, 0, 2, 4, 1, 4, 1, 3, 1, 1), seg(1, 3, 1, 4, 1, 1, 1, 3, 1, 0, 1, 1)},
		{"straight corners of the first one", points(0, 0, 1, 0, 1, 2, 1, 4, 0, 4), box(1, 1, 2, 3), seg(1, 1, 1, 2, 1, 2, 1, 3)},
		{"aslant", points(0, 0, 6, 0, 6, 6), points(1, 1, 4, 4, 0, 4), seg(4, 4, 1, 1)},
		{"parallel, apart", points(0, 0, 6, 0, 6, 6), points(0, 1, 5, 6, 0, 6), nil},
	} {
		if l, e := ground.Border(c.a, c.b); e != api.OK || !slices.Equal(l, c.want) {
			t.Error(c.what, l, e)
		}
	}
	if l, e := ground.Border(yard, box(1, 1, 3, 3)); e != api.ErrClash || len(l) > 0 {
		t.Error(l, e)
	}
	if l, e := ground.Border(yard, yard); e != api.ErrClash || len(l) > 0 {
		t.Error(l, e)
	}
}

// P1.2: the errors of the first polygon go before those of the second one.
func TestErrorsOfTwoPolygons(t *testing.T) {
	bad := points(0, 0, 0, 4, 4, 0)
	for _, c := range []struct {
		a, b []api.Point
		want api.Errno
	}{
		{nil, bad, api.ErrShape},
		{bad, nil, api.ErrOrder},
		{box(0, 0, 1, 1), nil, api.ErrShape},
		{box(0, 0, 1, 1), points(0, 0, 1, 0, 0, most), api.ErrRange},
		{box(0, 0, 1, 1), points(0, 0, 1, 0, 0, 0), api.ErrExists},
		{points(0, 0, 2, 0, 1, 0), box(0, 0, 1, 1), api.ErrForm},
	} {
		if is, e := ground.Overlap(c.a, c.b); is || e != c.want {
			t.Error("Overlap", c, is, e)
		}
		if is, e := ground.Within(c.a, c.b); is || e != c.want {
			t.Error("Within", c, is, e)
		}
		if l, e := ground.Border(c.a, c.b); len(l) > 0 || e != c.want {
			t.Error("Border", c, l, e)
		}
	}
}

// P1.8: moving a polygon, or beginning with another corner, changes nothing.
func TestMovedPolygons(t *testing.T) {
	l := anyPolygons(t, 13, 60)
	for i, a := range l {
		b := l[(i+1)%len(l)]
		far := moved(a, 99990, -100000)
		round := slices.Concat(a[1:], a[:1])
		if n := mustArea(t, a); n != mustArea(t, far) || n != mustArea(t, round) {
			t.Error(a, n)
		}
		is := mustOverlap(t, a, b)
		if mustOverlap(t, far, moved(b, 99990, -100000)) != is || mustOverlap(t, round, b) != is {
			t.Error(a, b, is)
		}
	}
}

// P1.8: Overlap and Within as relations.
func TestRelationsOfPolygons(t *testing.T) {
	l := anyPolygons(t, 14, 45)
	inner := 0
	for _, a := range l {
		if !mustOverlap(t, a, a) || !mustWithin(t, a, a) {
			t.Error(a)
		}
		for _, b := range l {
			if mustOverlap(t, a, b) != mustOverlap(t, b, a) {
				t.Error(a, b)
			}
			if !mustWithin(t, a, b) {
				continue
			}
			inner++
			if n, m := mustArea(t, a), mustArea(t, b); n > m || (n == m) != mustWithin(t, b, a) {
				t.Error(a, b, n, m)
			}
			for _, c := range l {
				if mustWithin(t, b, c) && !mustWithin(t, a, c) {
					t.Error(a, b, c)
				}
			}
		}
	}
	if inner <= len(l)+20 {
		t.Error("too few pairs to tell anything:", inner)
	}
}
