package ground_test

import (
	"math/big"
	"math/rand"
	"slices"
	"testing"

	"mortsafe/api"
	"mortsafe/ground"
)

// net makes differences of From, To, Diff and Weight, one after the other.
func net(n ...int) []api.Levelling {
	var l []api.Levelling
	for i := 0; i < len(n); i += 4 {
		l = append(l, api.Levelling{From: n[i], To: n[i+1], Diff: n[i+2], Weight: n[i+3]})
	}
	return l
}

// fracs makes fractions of numerators and denominators, one after the other.
func fracs(n ...int) []api.Frac {
	var l []api.Frac
	for i := 0; i < len(n); i += 2 {
		l = append(l, api.Frac{Num: n[i], Den: n[i+1]})
	}
	return l
}

// exampleNet is the net of the chapter's second example.
func exampleNet() []api.Levelling { return net(0, 1, 100, 1, 1, 2, 50, 1, 0, 2, 156, 1) }

// anyNet makes a net that hangs together, with numbers up to the limits.
func anyNet(r *rand.Rand) (int, []api.Levelling) {
	n := 1 + r.Intn(6)
	var l []api.Levelling
	for i := 1; i < n; i++ {
		l = append(l, api.Levelling{From: i, To: r.Intn(i)})
	}
	for n > 1 && len(l) < 20 && r.Intn(8) > 0 {
		from := r.Intn(n)
		l = append(l, api.Levelling{From: from, To: (from + 1 + r.Intn(n-1)) % n})
	}
	r.Shuffle(len(l), func(i, k int) { l[i], l[k] = l[k], l[i] })
	for i := range l {
		l[i].Diff, l[i].Weight = r.Intn(200001)-100000, 1+r.Intn(10)
		if r.Intn(2) > 0 {
			l[i].From, l[i].To = l[i].To, l[i].From
		}
	}
	return n, l
}

// squares is the sum of Weight times the square of the residual.
func squares(l []api.Levelling, h []*big.Rat) *big.Rat {
	total := new(big.Rat)
	for _, d := range l {
		r := plus(minus(big.NewRat(int64(d.Diff), 1), h[d.To]), h[d.From])
		total = plus(total, times(big.NewRat(int64(d.Weight), 1), times(r, r)))
	}
	return total
}

func rats(l []api.Frac) []*big.Rat {
	var rs []*big.Rat
	for _, f := range l {
		rs = append(rs, ratOf(f))
	}
	return rs
}

// P1.4: each error of CheckNet, and that an earlier one goes before later ones.
func TestCheckNet(t *testing.T) {
	ring := net(0, 1, 1, 1, 1, 2, 1, 1, 2, 3, 1, 1, 3, 4, 1, 1, 4, 5, 1, 1)
	for _, c := range []struct {
		what   string
		points int
		l      []api.Levelling
		want   api.Errno
	}{
		{"the example", 3, exampleNet(), api.OK},
		{"one point", 1, nil, api.OK},
		{"one point, an empty list", 1, []api.Levelling{}, api.OK},
		{"six points", 6, ring, api.OK},
		{"six points, backwards", 6, reversed(ring), api.OK},
		{"six points, against their order", 6, net(5, 4, 1, 1, 5, 3, 1, 1, 3, 2, 1, 1, 4, 1, 1, 1, 2, 0, 1, 1), api.OK},
		{"20 differences", 2, slices.Repeat(net(0, 1, 1, 1, 1, 0, 1, 1), 10), api.OK},
		{"limits", 2, net(0, 1, 100000, 10, 1, 0, -100000, 1), api.OK},
		{"no point", 0, net(0, 0, 0, 0), api.ErrRange},
		{"fewer than none", -1, nil, api.ErrRange},
		{"seven points", 7, slices.Repeat(net(0, 9, 1, 1), 21), api.ErrRange},
		{"the greatest number", most, nil, api.ErrRange},
		{"the least number", least, nil, api.ErrRange},
		{"21 differences", 2, slices.Repeat(net(0, 9, 1, 1), 21), api.ErrLarge},
		{"From is none", 2, net(2, 0, 1, 1), api.ErrMissing},
		{"From and To are none", 2, net(2, 2, 1, 1), api.ErrMissing},
		{"To is none", 2, net(0, 2, 100001, 1), api.ErrMissing},
		{"From is below 0", 2, net(-1, 0, 1, 1), api.ErrMissing},
		{"To is the least number", 2, net(0, least, 1, 1), api.ErrMissing},
		{"one point both ways", 2, net(1, 1, 100001, 1), api.ErrForm},
		{"one point of one", 1, net(0, 0, 0, 1), api.ErrForm},
		{"too great", 2, net(0, 1, 100001, 1), api.ErrRange},
		{"too small", 2, net(0, 1, -100001, 1), api.ErrRange},
		{"the least difference", 2, net(0, 1, least, 1), api.ErrRange},
		{"no weight", 2, net(0, 1, 1, 0), api.ErrRange},
		{"too heavy", 2, net(0, 1, 1, 11), api.ErrRange},
		{"the first wrong one decides", 3, net(0, 1, 1, 11, 0, 3, 1, 1), api.ErrRange},
		{"the first wrong one decides again", 3, net(0, 3, 1, 1, 0, 1, 1, 11), api.ErrMissing},
		{"no differences", 2, nil, api.ErrOpen},
		{"a lonely point", 4, exampleNet(), api.ErrOpen},
		{"two parts", 4, net(0, 1, 1, 1, 2, 3, 1, 1, 3, 2, 1, 1), api.ErrOpen},
		{"point 0 alone", 3, net(1, 2, 1, 1), api.ErrOpen},
	} {
		e := ground.CheckNet(c.points, c.l)
		if e != c.want {
			t.Error(c.what, e, "not", c.want)
		}
		if e == api.OK {
			continue
		}
		if h, e := ground.Heights(c.points, c.l); len(h) > 0 || e != c.want {
			t.Error("Heights", c.what, h, e)
		}
		if r, e := ground.Residuals(c.points, c.l, nil); len(r) > 0 || e != c.want {
			t.Error("Residuals", c.what, r, e)
		}
		if n, e := ground.CheckHeights(c.points, c.l, nil); n != 0 || e != c.want {
			t.Error("CheckHeights", c.what, n, e)
		}
		if n, e := ground.Misclosure(c.points, c.l, nil); n != 0 || e != c.want {
			t.Error("Misclosure", c.what, n, e)
		}
	}
}

// P1.4: Heights, with the example of the chapter.
func TestHeights(t *testing.T) {
	heavy := exampleNet()
	heavy[2].Weight = 2
	for _, c := range []struct {
		what   string
		points int
		l      []api.Levelling
		want   []api.Frac
	}{
		{"the example", 3, exampleNet(), fracs(0, 1, 102, 1, 154, 1)},
		{"the example with a weight", 3, heavy, fracs(0, 1, 512, 5, 774, 5)},
		{"one point", 1, nil, fracs(0, 1)},
		{"one difference", 2, net(0, 1, -7, 3), fracs(0, 1, -7, 1)},
		{"one difference, backwards", 2, net(1, 0, -7, 3), fracs(0, 1, 7, 1)},
		{"there and back", 2, net(0, 1, 10, 1, 1, 0, -13, 1), fracs(0, 1, 23, 2)},
		{"two weights", 2, net(0, 1, 0, 10, 0, 1, -1, 5), fracs(0, 1, -1, 3)},
		{"the highest", 6, net(0, 1, 100000, 1, 1, 2, 100000, 1, 2, 3, 100000, 1, 3, 4, 100000, 1, 5, 4, -100000, 1), fracs(0, 1, 100000, 1, 200000, 1, 300000, 1, 400000, 1, 500000, 1)},
	} {
		if h, e := ground.Heights(c.points, c.l); e != api.OK || !slices.Equal(h, c.want) {
			t.Error(c.what, h, e)
		}
	}
}

// solve computes the heights of a net with fractions without limits, by elimination.
func solve(points int, l []api.Levelling) []*big.Rat {
	m := make([][]*big.Rat, points)
	for i := range m {
		m[i] = make([]*big.Rat, points+1)
		for k := range m[i] {
			m[i][k] = new(big.Rat)
		}
	}
	m[0][0].SetInt64(1)
	for _, d := range l {
		w, wd := big.NewRat(int64(d.Weight), 1), big.NewRat(int64(d.Weight*d.Diff), 1)
		for _, x := range []struct {
			at, other int
			right     *big.Rat
		}{{d.To, d.From, wd}, {d.From, d.To, new(big.Rat).Neg(wd)}} {
			if x.at > 0 {
				m[x.at][x.at] = plus(m[x.at][x.at], w)
				m[x.at][x.other] = minus(m[x.at][x.other], w)
				m[x.at][points] = plus(m[x.at][points], x.right)
			}
		}
	}
	for i := range m {
		for k := range m {
			if k == i {
				continue
			}
			f := new(big.Rat).Quo(m[k][i], m[i][i])
			for c := range m[k] {
				m[k][c] = minus(m[k][c], times(f, m[i][c]))
			}
		}
	}
	h := make([]*big.Rat, points)
	for i := range h {
		h[i] = new(big.Rat).Quo(m[i][points], m[i][i])
	}
	return h
}

// P1.4, P1.5 and P1.9 on nets with numbers up to the limits: the heights are the
// solution, CheckHeights accepts them alone, and others have no less sum.
func TestAnyNets(t *testing.T) {
	r := rand.New(rand.NewSource(31))
	for range 400 {
		n, l := anyNet(r)
		h, e := ground.Heights(n, l)
		if e != api.OK || len(h) != n {
			t.Fatal(n, l, h, e)
		}
		for i, x := range solve(n, l) {
			if h[i] != fracOf(t, x) {
				t.Fatal(n, l, h, i, x)
			}
		}
		if p, e := ground.CheckHeights(n, l, h); p != 0 || e != api.OK {
			t.Fatal(n, l, h, p, e)
		}
		best := squares(l, rats(h))
		for i := 1; i < n; i++ {
			other := rats(h)
			other[i] = plus(other[i], big.NewRat(int64(r.Intn(200)-100), int64(1+r.Intn(50))))
			if squares(l, other).Cmp(best) < 0 {
				t.Fatal(n, l, h, other)
			}
		}
	}
}

// P1.4: the net with the greatest numbers that the limits allow.
func TestGreatestNet(t *testing.T) {
	var l []api.Levelling
	for i := range 20 {
		from := i % 6
		l = append(l, api.Levelling{From: from, To: (from + 1 + i/6) % 6, Diff: 100000 - i, Weight: 10 - i%2})
	}
	h, e := ground.Heights(6, l)
	if e != api.OK {
		t.Fatal(e)
	}
	for i, x := range solve(6, l) {
		if h[i] != fracOf(t, x) {
			t.Error(i, h[i], x)
		}
	}
}

// P1.5: each error of heights, and that an earlier one goes before later ones.
func TestErrorsOfHeights(t *testing.T) {
	two := net(0, 1, 1, 1)
	for _, c := range []struct {
		what string
		h    []api.Frac
		want api.Errno
	}{
		{"none", nil, api.ErrShape},
		{"too few", fracs(0, 0), api.ErrShape},
		{"too many", fracs(0, 1, 1, 1, 1, 1), api.ErrShape},
		{"a denominator of 0", fracs(0, 1, 1, 0), api.ErrForm},
		{"a zero value", make([]api.Frac, 2), api.ErrForm},
		{"a negative denominator", fracs(0, 1, -1, -1), api.ErrForm},
		{"the least denominator", fracs(0, 1, 1, least), api.ErrForm},
		{"not lowest", fracs(0, 1, 2, 4), api.ErrForm},
		{"not lowest, negative", fracs(0, 1, -3, 9), api.ErrForm},
		{"0 over 2", fracs(0, 2, 1, 1), api.ErrForm},
		{"not lowest and too great", fracs(0, 1, 6000000, 2), api.ErrForm},
		{"the least numerator, not lowest", fracs(0, 1, least, 2), api.ErrForm},
		{"too high", fracs(0, 1, 2000001, 1), api.ErrRange},
		{"too low", fracs(0, 1, -2000001, 1), api.ErrRange},
		{"a little too high", fracs(0, 1, 4000001, 2), api.ErrRange},
		{"a little too low", fracs(0, 1, -4000001, 2), api.ErrRange},
		{"too high, the denominator too great", fracs(0, 1, 2000001*4000000001+1, 4000000001), api.ErrRange},
		{"the least number", fracs(0, 1, least, 1), api.ErrRange},
		{"the greatest number", fracs(0, 1, most, 1), api.ErrRange},
		{"the denominator too great", fracs(0, 1, 1, 4000000001), api.ErrLarge},
		{"the greatest denominator", fracs(0, 1, 1, most), api.ErrLarge},
		{"the least over the greatest", fracs(0, 1, least, most), api.ErrLarge},
		{"the common one too great", fracs(1, 65537, 1, 65539), api.ErrLarge},
		{"the first one decides", fracs(1, 4000000001, 1, 0), api.ErrLarge},
		{"the first one decides again", fracs(2000001, 1, 1, 0), api.ErrRange},
	} {
		if r, e := ground.Residuals(2, two, c.h); len(r) > 0 || e != c.want {
			t.Error("Residuals", c.what, r, e)
		}
		if n, e := ground.CheckHeights(2, two, c.h); n != 0 || e != c.want {
			t.Error("CheckHeights", c.what, n, e)
		}
	}
}

// P1.5: Residuals in lowest terms, with the example and at the limits.
func TestResiduals(t *testing.T) {
	for _, c := range []struct {
		what   string
		points int
		l      []api.Levelling
		h      []api.Frac
		want   []api.Frac
	}{
		{"the example", 3, exampleNet(), fracs(0, 1, 102, 1, 154, 1), fracs(-2, 1, -2, 1, 2, 1)},
		{"one point", 1, nil, fracs(0, 1), nil},
		{"lowest terms", 3, exampleNet(), fracs(1, 2, 1, 6, 1, 3), fracs(301, 3, 299, 6, 937, 6)},
		{"highest", 2, net(0, 1, 100000, 1), fracs(2000000, 1, -2000000, 1), fracs(4100000, 1)},
		{"lowest", 2, net(1, 0, -100000, 1), fracs(2000000, 1, -2000000, 1), fracs(-4100000, 1)},
		{"the greatest denominator", 2, net(0, 1, 0, 1), fracs(0, 1, 1, 4000000000), fracs(-1, 4000000000)},
		{"a great odd denominator", 2, net(0, 1, 0, 1), fracs(0, 1, 1, 3999999999), fracs(-1, 3999999999)},
		{"the greatest common one", 2, net(0, 1, 1, 1), fracs(1, 2048, 1, 1953125), fracs(4001951077, 4000000000)},
	} {
		if r, e := ground.Residuals(c.points, c.l, c.h); e != api.OK || !slices.Equal(r, c.want) {
			t.Error(c.what, r, e)
		}
	}
}

// P1.5: CheckHeights refuses heights, with the first point that shows it.
func TestCheckHeights(t *testing.T) {
	heavy := slices.Repeat(net(0, 1, 100000, 10), 20)
	wide := append(net(0, 1, 0, 1), slices.Repeat(net(1, 2, 100000, 10), 19)...)
	for _, c := range []struct {
		what   string
		points int
		l      []api.Levelling
		h      []api.Frac
		at     int
		want   api.Errno
	}{
		{"the example", 3, exampleNet(), fracs(0, 1, 102, 1, 154, 1), 0, api.OK},
		{"one point", 1, nil, fracs(0, 1), 0, api.OK},
		{"one point too high", 1, nil, fracs(1, 3), 0, api.ErrProof},
		{"all too high", 3, exampleNet(), fracs(1, 1, 103, 1, 155, 1), 0, api.ErrProof},
		{"point 0 and others", 3, exampleNet(), fracs(-1, 1, 0, 1, 0, 1), 0, api.ErrProof},
		{"points 1 and 2", 3, exampleNet(), fracs(0, 1, 102, 1, 155, 1), 1, api.ErrProof},
		{"point 2 alone", 3, net(0, 1, 5, 1, 0, 2, 5, 1), fracs(0, 1, 5, 1, 6, 1), 2, api.ErrProof},
		{"point 1 alone", 3, net(0, 1, 5, 1, 0, 2, 5, 1), fracs(0, 1, 6, 1, 5, 1), 1, api.ErrProof},
		{"a weight that counts", 2, net(0, 1, 0, 10, 0, 1, -1, 5), fracs(0, 1, -1, 2), 1, api.ErrProof},
		{"a weight that counts, right", 2, net(0, 1, 0, 10, 0, 1, -1, 5), fracs(0, 1, -1, 3), 0, api.OK},
		{"greatest numbers", 2, heavy, fracs(0, 1, -7999999999999999, 4000000000), 1, api.ErrProof},
		{"greatest numbers both ways", 3, wide, fracs(0, 1, 7999999999999999, 4000000000, -7999999999999999, 4000000000), 1, api.ErrProof},
		{"greatest numbers, right", 2, heavy, fracs(0, 1, 100000, 1), 0, api.OK},
	} {
		if n, e := ground.CheckHeights(c.points, c.l, c.h); n != c.at || e != c.want {
			t.Error(c.what, n, e)
		}
	}
}

// P1.4: Misclosure, with the example, and its errors in their order.
func TestMisclosure(t *testing.T) {
	for _, c := range []struct {
		what string
		loop []int
		want int
		err  api.Errno
	}{
		{"the example", []int{1, 2, -3}, -6, api.OK},
		{"backwards", []int{3, -2, -1}, 6, api.OK},
		{"from another point on", []int{2, -3, 1}, -6, api.OK},
		{"there and back", []int{2, -2}, 0, api.OK},
		{"twice round, there and back", []int{1, 2, -3, 3, -3, 1, -1, 1, 2, -3}, -12, api.OK},
		{"100 differences", slices.Repeat([]int{1, -1}, 50), 0, api.OK},
		{"none", nil, 0, api.ErrShape},
		{"101 differences", append(slices.Repeat([]int{1, -1}, 50), 0), 0, api.ErrShape},
		{"number 0", []int{0}, 0, api.ErrMissing},
		{"number 4", []int{1, 4, 1}, 0, api.ErrMissing},
		{"number -4", []int{-4}, 0, api.ErrMissing},
		{"the least number", []int{least}, 0, api.ErrMissing},
		{"the greatest number", []int{most}, 0, api.ErrMissing},
		{"one alone", []int{1}, 0, api.ErrOpen},
		{"a gap inside", []int{1, -3}, 0, api.ErrOpen},
		{"a gap at the end", []int{1, 2}, 0, api.ErrOpen},
		{"the wrong direction", []int{1, 2, 3}, 0, api.ErrOpen},
		{"a gap, then a missing one", []int{1, 1, 9}, 0, api.ErrMissing},
	} {
		if n, e := ground.Misclosure(3, exampleNet(), c.loop); n != c.want || e != c.err {
			t.Error(c.what, n, e)
		}
	}
	if n, e := ground.Misclosure(1, nil, []int{1}); n != 0 || e != api.ErrMissing {
		t.Error(n, e)
	}
}

// P1.9: differences that close have residuals of 0, and weights multiplied by one
// number give the same heights.
func TestLeastSquares(t *testing.T) {
	r := rand.New(rand.NewSource(32))
	for range 200 {
		n, l := anyNet(r)
		heavy := slices.Clone(l)
		for i := range l {
			l[i].Weight = 1 + r.Intn(3)
			heavy[i].Weight = 3 * l[i].Weight
		}
		a, _ := ground.Heights(n, l)
		b, e := ground.Heights(n, heavy)
		if e != api.OK || !slices.Equal(a, b) {
			t.Fatal(n, l, a, b, e)
		}
		for i := range l {
			l[i].Diff = l[i].To*l[i].To*1000 - l[i].From*l[i].From*1000
		}
		h, _ := ground.Heights(n, l)
		v, e := ground.Residuals(n, l, h)
		for i := range v {
			if e != api.OK || v[i] != (api.Frac{Num: 0, Den: 1}) {
				t.Fatal(n, l, h, v, e)
			}
		}
	}
}

// P1.9: a loop backwards has the opposite misclosure.
func TestLoopsBackwards(t *testing.T) {
	r := rand.New(rand.NewSource(33))
	loops := 0
	for range 2000 {
		n, l := anyNet(r)
		var loop []int
		for range 2 + r.Intn(4) {
			loop = append(loop, (1+r.Intn(max(len(l), 1)))*(1-2*r.Intn(2)))
		}
		back := reversed(loop)
		for i := range back {
			back[i] = -back[i]
		}
		a, e := ground.Misclosure(n, l, loop)
		b, f := ground.Misclosure(n, l, back)
		if a != -b || e != f {
			t.Fatal(n, l, loop, a, b, e, f)
		}
		if e == api.OK && a != 0 {
			loops++
		}
	}
	if loops < 10 {
		t.Error("too few loops to tell anything:", loops)
	}
}
