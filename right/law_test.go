package right_test

import (
	"slices"
	"testing"

	"mortsafe/api"
	"mortsafe/right"
)

// lawTests are laws and their errors.
var lawTests = []struct {
	what string
	l    []api.Law
	want api.Errno
}{
	{"none", nil, api.OK},
	{"the chapter's example", twoLaws(), api.OK},
	{"the ends of the days", []api.Law{law(0, false, 0, 1), law(api.MaxDay, true, 1, 1)}, api.OK},
	{"10", repeat(10, func(i int) api.Law { return law(i, false, 1, 2) }), api.OK},
	{"the finest", []api.Law{law(5, true, 15, 16)}, api.OK},

	{"11", repeat(11, func(i int) api.Law { return law(i, false, 1, 2) }), api.ErrLarge},
	{"11 wrong ones", make([]api.Law, 11), api.ErrLarge},
	{"a day before all", []api.Law{law(-1, false, 1, 2)}, api.ErrRange},
	{"a day behind all", []api.Law{law(api.MaxDay+1, false, 1, 2)}, api.ErrRange},
	{"no day, no fraction", []api.Law{law(-1, false, 1, 0)}, api.ErrRange},
	{"a zero of no kind", []api.Law{law(0, false, 0, 0)}, api.ErrForm},
	{"no denominator", []api.Law{law(0, false, 1, 0)}, api.ErrForm},
	{"too fine", []api.Law{law(0, false, 1, 17)}, api.ErrForm},
	{"more than 1", []api.Law{law(0, false, 3, 2)}, api.ErrForm},
	{"2", []api.Law{law(0, false, 2, 1)}, api.ErrForm},
	{"negative", []api.Law{law(0, false, -1, 2)}, api.ErrForm},
	{"negative both", []api.Law{law(0, false, -1, -2)}, api.ErrForm},
	{"negative below", []api.Law{law(0, false, 1, -2)}, api.ErrForm},
	{"not in lowest terms", []api.Law{law(0, false, 2, 4)}, api.ErrForm},
	{"a zero not in lowest terms", []api.Law{law(0, false, 0, 2)}, api.ErrForm},
	{"a one not in lowest terms", []api.Law{law(0, false, 2, 2)}, api.ErrForm},
	{"one day twice", []api.Law{law(5, false, 1, 2), law(5, true, 1, 2)}, api.ErrOrder},
	{"an earlier day", []api.Law{law(5, false, 1, 2), law(4, true, 1, 2)}, api.ErrOrder},
	{"an earlier day, no fraction", []api.Law{law(5, false, 1, 2), law(4, true, 0, 0)}, api.ErrForm},
	{"no day of the second one", []api.Law{law(5, false, 1, 2), law(-4, true, 0, 0)}, api.ErrRange},
	{"the first wrong one decides", []api.Law{law(5, false, 1, 2), law(4, true, 1, 2), law(-1, true, 1, 2)}, api.ErrOrder},
}

// P5.1: CheckLaws tells the errors of laws in their order; so do the functions with laws.
func TestCheckLaws(t *testing.T) {
	for _, x := range lawTests {
		if e := right.CheckLaws(x.l); e != x.want {
			t.Error(x.what, e)
		}
		if found, e := right.LawOn(x.l, 0); e != x.want || e != api.OK && found != (api.Law{}) {
			t.Error(x.what, found, e)
		}
		if _, e := right.LawOn(x.l, -1); x.want != api.OK && e != x.want || x.want == api.OK && e != api.ErrRange {
			t.Error(x.what, e)
		}
		if n, e := right.Replay(api.Rights{Laws: x.l, Deeds: deeds(death(0, "ann"))}); x.want != api.OK && n != 0 || e != x.want {
			t.Error(x.what, n, e)
		}
		if n, e := right.Replay(api.Rights{Laws: x.l, Deeds: make([]api.Deed, 1)}); x.want != api.OK && (n != 0 || e != x.want) {
			t.Error(x.what, n, e)
		}
	}
	for _, n := range extremes {
		if e := right.CheckLaws([]api.Law{law(n, false, 1, 2)}); e != api.ErrRange {
			t.Error(n, e)
		}
		for _, f := range []api.Frac{frac(n, 2), frac(1, n), frac(n, n), frac(n, 1), frac(0, n), frac(n, 0)} {
			if e := right.CheckLaws([]api.Law{{Spouse: f}}); e != api.ErrForm {
				t.Error(f, e)
			}
		}
	}
}

// P5.1: all fractions from 0 to 1 in lowest terms with denominators up to 16, and no others.
func TestFractionsOfLaws(t *testing.T) {
	for den := -3; den <= 20; den++ {
		for num := -3; num <= 22; num++ {
			common := slices.ContainsFunc([]int{2, 3, 5, 7, 11, 13}, func(p int) bool { return num%p == 0 && den%p == 0 })
			want := den >= 1 && den <= 16 && num >= 0 && num <= den && !common
			if e := right.CheckLaws([]api.Law{law(0, false, num, den)}); (e == api.OK) != want {
				t.Error(num, den, e)
			}
		}
	}
}

// P5.1: the law of a day is the last one that holds from it or before; without one it is
// the law of heads that gives a spouse nothing.
func TestLawOn(t *testing.T) {
	none := law(0, false, 0, 1)
	l := []api.Law{law(10, true, 1, 3), law(20, false, 2, 3), law(21, true, 1, 1)}
	tests := []struct {
		l    []api.Law
		day  int
		want api.Law
	}{
		{nil, 0, none}, {nil, api.MaxDay, none}, {[]api.Law{}, 5, none},
		{l, 0, none}, {l, 9, none}, {l, 10, l[0]}, {l, 19, l[0]}, {l, 20, l[1]}, {l, 21, l[2]}, {l, 22, l[2]}, {l, api.MaxDay, l[2]},
		{twoLaws(), 0, twoLaws()[0]}, {twoLaws(), 49999, twoLaws()[0]}, {twoLaws(), 50000, twoLaws()[1]},
	}
	for _, x := range tests {
		if found, e := right.LawOn(x.l, x.day); found != x.want || e != api.OK {
			t.Error(x.day, found, e)
		}
	}
	for _, day := range with(extremes, api.MaxDay+1) {
		if found, e := right.LawOn(l, day); found != (api.Law{}) || e != api.ErrRange {
			t.Error(day, found, e)
		}
	}
}
