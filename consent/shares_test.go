package consent_test

import (
	"math"
	"math/rand"
	"testing"

	"mortsafe/api"
	"mortsafe/consent"
)

func fracs(numbers ...int) []api.Frac {
	var l []api.Frac
	for i := 0; i < len(numbers); i += 2 {
		l = append(l, frac(numbers[i], numbers[i+1]))
	}
	return l
}

// equalShares is equal shares of some holders.
func equalShares(n int) []api.Frac { return repeat(n, always(frac(1, n))) }

// P6.7: examples of shares.
func TestOfShares(t *testing.T) {
	shares := []struct {
		holders string
		shares  []api.Frac
		most    api.Frac
		want    string
	}{
		{"a b c", fracs(1, 2, 1, 3, 1, 6), frac(1, 2), "4 of (3 a, 2 b, 1 c)"},
		{"c a b", fracs(1, 2, 1, 3, 1, 6), frac(1, 2), "4 of (3 c, 2 a, 1 b)"},
		{"a b c", fracs(1, 2, 1, 3, 1, 6), frac(2, 3), "5 of (3 a, 2 b, 1 c)"},
		{"a b c", fracs(1, 2, 1, 3, 1, 6), frac(3, 4), "5 of (3 a, 2 b, 1 c)"},
		{"a b c", fracs(1, 2, 1, 3, 1, 6), frac(5, 6), "6 of (3 a, 2 b, 1 c)"},
		{"a b c", fracs(1, 2, 1, 3, 1, 6), frac(0, 1), "1 of (3 a, 2 b, 1 c)"},
		{"a b c", fracs(1, 2, 1, 3, 1, 6), frac(1, 7), "1 of (3 a, 2 b, 1 c)"},
		{"a b c", fracs(1, 2, 1, 3, 1, 6), frac(1, 6), "2 of (3 a, 2 b, 1 c)"},
		{"a b c", fracs(1, 3, 1, 3, 1, 3), frac(1, 2), "2 of (1 a, 1 b, 1 c)"},
		{"a b c", fracs(1, 3, 1, 3, 1, 3), frac(2, 3), "3 of (1 a, 1 b, 1 c)"},
		{"a", fracs(1, 1), frac(0, 1), "1 of (1 a)"},
		{"a", fracs(1, 1), frac(999999, 1000000), "1 of (1 a)"},
		{"a b", fracs(1, 1000, 999, 1000), frac(999999, 1000000), "1000 of (1 a, 999 b)"},
		{"a b", fracs(1, 1000, 999, 1000), frac(999, 1000), "1000 of (1 a, 999 b)"},
		{"a b", fracs(1, 1000, 999, 1000), frac(998999, 1000000), "999 of (1 a, 999 b)"},
		{"a b", fracs(1, 1000, 999, 1000), frac(1, 1000000), "1 of (1 a, 999 b)"},
		{"a b c", fracs(1, 8, 1, 125, 867, 1000), frac(1, 2), "501 of (125 a, 8 b, 867 c)"},
		{"a b c d", fracs(1, 4, 1, 6, 1, 3, 1, 4), frac(1, 2), "7 of (3 a, 2 b, 4 c, 3 d)"},
		{"all any of", fracs(1, 4, 1, 4, 1, 2), frac(1, 4), "2 of (1 all, 1 any, 2 of)"},
	}
	for _, x := range shares {
		r, e := consent.OfShares(words(x.holders), x.shares, x.most)
		check(t, "OfShares of "+x.holders, text(r, e), 0, x.want)
	}
	r, e := consent.OfShares(letters(30), equalShares(30), frac(1, 2))
	check(t, "OfShares of thirty", r, e, sumOf(16, repeat(30, always(1)), repeat(30, func(i int) api.Rule { return person(letters(30)[i]) })...))
}

// wrongShares are arguments with their error, some of them with several ones.
type wrongShares struct {
	holders []string
	shares  []api.Frac
	most    api.Frac
	e       api.Errno
}

// wrongHolders are those whose error is one of the holders or their shares.
func wrongHolders() []wrongShares {
	half, bad, two := frac(1, 2), frac(2, 2), fracs(1, 2, 1, 2)
	l := []wrongShares{
		{nil, nil, bad, api.ErrShape},
		{words("a"), nil, half, api.ErrShape},
		{nil, fracs(1, 1), half, api.ErrShape},
		{words("1 1"), fracs(1, 1), bad, api.ErrShape},
		{words("a"), two, half, api.ErrShape},
		{letters(31), equalShares(30), half, api.ErrShape},
		{letters(31), equalShares(31), bad, api.ErrLarge},
		{make([]string, 31), make([]api.Frac, 31), bad, api.ErrLarge},
		{make([]string, 1<<20), make([]api.Frac, 1<<20), half, api.ErrLarge},
		{words("a a"), two, half, api.ErrExists},
		{words("a a"), fracs(1, 2, 2, 4), half, api.ErrExists},
		{words("a b a"), fracs(1, 3, 1, 3, 0, 1), bad, api.ErrExists},
		{words("1 1"), fracs(2, 4, 0, 0), half, api.ErrName},
		{words("a 1"), fracs(2, 4, 1, 2), half, api.ErrForm},
		{words("a 1"), fracs(0, 1, 1, 2), half, api.ErrRange},
		{words("a b"), fracs(0, 1, 2, 4), half, api.ErrRange},
		{words("a b"), fracs(2, 4, 0, 1), half, api.ErrForm},
		{words("a b"), fracs(1, 2, 0, 1), bad, api.ErrRange},
		{words("a b"), fracs(1, 2, -1, 2), bad, api.ErrRange},
		{words("a b"), fracs(1, 2, -1, 1000001), bad, api.ErrRange},
		{words("a b"), fracs(2, 2000002, 1, 2), frac(1, 1), api.ErrForm},
	}
	for _, name := range wrongNames {
		l = append(l, wrongShares{[]string{"a", name}, fracs(1, 2, 0, 0), bad, api.ErrName})
	}
	for _, f := range fracs(2, 4, 0, 2, 0, 0, 1, 0, 1, -2, -1, -2, -2, 4, 3, 3, 0, -1, math.MinInt, 2, 6, math.MinInt, 1, math.MinInt, math.MinInt, math.MinInt, math.MaxInt, math.MaxInt, math.MinInt, -1, math.MinInt, 0, math.MaxInt-1, 2) {
		l = append(l, wrongShares{words("a b"), []api.Frac{half, f}, bad, api.ErrForm})
	}
	for _, f := range fracs(0, 1, -1, 1, -1, 2, -3, 2, math.MinInt, 1, math.MinInt, 3, -1, math.MaxInt, math.MinInt, math.MaxInt) {
		l = append(l, wrongShares{words("a b"), []api.Frac{half, f}, bad, api.ErrRange})
	}
	return l
}

// wrongMost are those whose error is one of the part, or of all shares together.
func wrongMost() []wrongShares {
	half, two := frac(1, 2), fracs(1, 2, 1, 2)
	l := []wrongShares{
		{words("a b"), fracs(1, 1000001, 1, 2), half, api.ErrRange},
		{words("a b"), fracs(1, 2, 1, math.MaxInt), half, api.ErrRange},
		{words("a b"), fracs(1, 1000001, 1, 2), frac(2, 4), api.ErrForm},
		{words("a b"), two, frac(1, 1000001), api.ErrRange},
		{words("a b"), two, frac(1, math.MaxInt), api.ErrRange},
		{words("a b"), fracs(1, 1001, 1, 2), frac(1, 1000001), api.ErrRange},
		{words("a b"), fracs(1, 1001, 1000, 1001), half, api.ErrLarge},
		{words("a b"), fracs(1, 1000000, 1, 2), half, api.ErrLarge},
		{words("a b"), fracs(1, 1000000, 1, 999999), frac(999999, 1000000), api.ErrLarge},
		{words("a b c"), fracs(1, 8, 1, 125, 1, 3), half, api.ErrLarge},
		{words("a b"), fracs(math.MaxInt, 1, 1, 1001), half, api.ErrLarge},
		{letters(30), repeat(30, func(i int) api.Frac { return frac(1, 999971+i) }), half, api.ErrLarge},
		{letters(30), repeat(30, func(i int) api.Frac { return frac(1, 500+i) }), half, api.ErrLarge},
		{words("a b"), fracs(1, 2, 1, 3), half, api.ErrShape},
		{words("a b"), fracs(1, 2, 2, 3), half, api.ErrShape},
		{words("a b"), fracs(1, 2, 1, 1), half, api.ErrShape},
		{words("a"), fracs(1, 1000), half, api.ErrShape},
		{words("a"), fracs(2, 1), half, api.ErrShape},
		{words("a"), fracs(math.MaxInt, 1), half, api.ErrShape},
		{words("a b"), fracs(1, 2, math.MaxInt, 2), half, api.ErrShape},
		// these add up to 1 where numbers wrap around
		{words("a b c"), fracs(math.MaxInt, 1, math.MaxInt, 1, 3, 1), half, api.ErrShape},
		{words("a b c"), fracs(math.MaxInt, 1, 1, 2, 1, 2), half, api.ErrShape},
		{words("a b"), fracs(math.MaxInt, 2, 3, 2), half, api.ErrShape},
	}
	for _, f := range fracs(2, 4, 0, 2, 0, 0, 1, 0, 1, -2, 2, 2, -2, 4, 3000000, 3000000, math.MinInt, 2, 1, math.MinInt, math.MinInt, math.MinInt) {
		l = append(l, wrongShares{words("a b"), fracs(1, 2, 1, 3), f, api.ErrForm})
	}
	for _, f := range fracs(1, 1, 3, 2, -1, 2, -1, 1, math.MinInt, 1, math.MaxInt, 1, math.MinInt, 3, 1000001, 1000000) {
		l = append(l, wrongShares{words("a b"), fracs(1, 1001, 1, 3), f, api.ErrRange})
	}
	return l
}

// P6.7: the errors of shares, in their order.
func TestWrongShares(t *testing.T) {
	for _, x := range with(wrongHolders(), wrongMost()...) {
		r, e := consent.OfShares(x.holders, x.shares, x.most)
		if e != x.e || isSomething(r) {
			t.Errorf("%v %v %v: %v %d, not %d", x.holders[:min(len(x.holders), 3)], x.shares[:min(len(x.shares), 3)], x.most, r, e, x.e)
		}
	}
}

// P6.7: common denominators that are too great, also far greater than a number can be.
func TestLargeDenominators(t *testing.T) {
	r := rand.New(rand.NewSource(17))
	for range 5000 {
		n := 1 + r.Intn(30)
		shares := repeat(n, func(int) api.Frac { return frac(1, 1001+r.Intn(1000000-1000)) })
		if built, e := consent.OfShares(letters(n), shares, frac(1, 2)); e != api.ErrLarge || isSomething(built) {
			t.Fatal(shares, text(built, 0), e)
		}
	}
}
