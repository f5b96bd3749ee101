package allot_test

import (
	"slices"
	"strconv"
	"testing"

	"mortsafe/allot"
	"mortsafe/api"
)

// P7.1: wishes are right up to the ends of all ranges.
func TestRightWishes(t *testing.T) {
	for _, l := range [][]api.Wish{nil, {}, wishes(), plainWishes(60), {{Name: "a", Kind: 3, Day: 200000}}, {{Name: "a"}, {Name: "A"}}} {
		if e := allot.CheckWishes(l); e != api.OK {
			t.Error(l, e)
		}
	}
	for _, s := range rightNames {
		for _, w := range []api.Wish{{Name: s}, {Name: "b", Family: s}, {Name: "b", Section: s}, {Name: s, Family: s, Section: s}} {
			if e := allot.CheckWishes([]api.Wish{w}); e != api.OK {
				t.Error(w, e)
			}
		}
	}
}

// P7.1: each error of a wish, and before the ones that are listed behind it.
func TestWrongWishes(t *testing.T) {
	a := api.Wish{Name: "a", Kind: 4, Day: -1}
	type row struct {
		l []api.Wish
		e api.Errno
	}
	rows := []row{
		{plainWishes(61), api.ErrLarge},
		{with(plainWishes(60), api.Wish{}), api.ErrLarge},
		{[]api.Wish{{}}, api.ErrName},
		{[]api.Wish{{Name: "a"}, {Name: "a", Family: "-", Kind: 4}}, api.ErrName},
		{[]api.Wish{{Name: "a"}, {Name: "a", Section: "-", Day: -1}}, api.ErrName},
		{[]api.Wish{{Name: "a"}, {Name: "a"}}, api.ErrExists},
		{[]api.Wish{{Name: "a"}, {Name: "b"}, {Name: "a", Kind: 4}}, api.ErrExists},
		{[]api.Wish{{Name: "a"}, a, {Name: "-"}}, api.ErrExists},
		{[]api.Wish{a, a}, api.ErrRange},
		{[]api.Wish{a, {Name: "-"}}, api.ErrRange},
		{[]api.Wish{{Name: "a", Kind: -1}}, api.ErrRange},
		{[]api.Wish{{Name: "a", Kind: 4}}, api.ErrRange},
		{[]api.Wish{{Name: "a", Day: -1}}, api.ErrRange},
		{[]api.Wish{{Name: "a", Day: 200001}}, api.ErrRange},
		{with(plainWishes(59), api.Wish{Name: "a", Day: -1}), api.ErrRange},
	}
	for _, s := range wrongNames {
		rows = append(rows, row{[]api.Wish{{Name: s}}, api.ErrName}, row{[]api.Wish{{Name: "a", Family: s}}, api.ErrName}, row{[]api.Wish{{Name: "a", Section: s}}, api.ErrName})
	}
	for _, n := range extremes {
		rows = append(rows, row{[]api.Wish{{Name: "a", Kind: n}}, api.ErrRange}, row{[]api.Wish{{Name: "a", Day: n}}, api.ErrRange})
	}
	for _, r := range rows {
		if e := allot.CheckWishes(r.l); e != r.e {
			t.Error(r.l, e, r.e)
		}
		checkAll(t, "wrong wishes", allOfPlaces(), places{r.l, []api.Vacancy{{}}}, r.e)
		checkAll(t, "wrong wishes", allOfPlaces(), places{r.l, vacancies()}, r.e)
	}
}

// P7.1: vacancies are right up to the ends of all ranges.
func TestRightVacancies(t *testing.T) {
	for _, l := range [][]api.Vacancy{
		nil, {}, vacancies(), plainRooms(make([]int, 60)...),
		{{Name: "a", Section: "s", Kind: 3, Room: 20, From: 200000}},
		{{Name: "a", Section: "a"}, {Name: "A", Section: "a", Family: "a"}},
	} {
		if e := allot.CheckVacancies(l); e != api.OK {
			t.Error(l, e)
		}
	}
	for _, s := range rightNames {
		for _, v := range []api.Vacancy{{Name: s, Section: "s"}, {Name: "b", Section: s}, {Name: "b", Section: "s", Family: s}} {
			if e := allot.CheckVacancies([]api.Vacancy{v}); e != api.OK {
				t.Error(v, e)
			}
		}
	}
}

// P7.1: each error of a vacancy, and before the ones that are listed behind it.
func TestWrongVacancies(t *testing.T) {
	a := api.Vacancy{Name: "a", Section: "s"}
	outside := api.Vacancy{Name: "a", Section: "s", Kind: 4, Room: 21, From: -1}
	type row struct {
		l []api.Vacancy
		e api.Errno
	}
	rows := []row{
		{plainRooms(make([]int, 61)...), api.ErrLarge},
		{with(plainRooms(make([]int, 60)...), api.Vacancy{}), api.ErrLarge},
		{[]api.Vacancy{{}}, api.ErrName},
		{[]api.Vacancy{{Section: "s"}}, api.ErrName},
		{[]api.Vacancy{{Name: "a"}}, api.ErrName},
		{[]api.Vacancy{a, {Name: "a", Room: 21}}, api.ErrName},
		{[]api.Vacancy{a, {Name: "a", Section: "s", Family: "-", Room: 21}}, api.ErrName},
		{[]api.Vacancy{a, a}, api.ErrExists},
		{[]api.Vacancy{a, {Name: "b", Section: "s"}, outside}, api.ErrExists},
		{[]api.Vacancy{a, outside, {}}, api.ErrExists},
		{[]api.Vacancy{outside, a}, api.ErrRange},
		{[]api.Vacancy{outside, {}}, api.ErrRange},
		{[]api.Vacancy{{Name: "a", Section: "s", Kind: -1}}, api.ErrRange},
		{[]api.Vacancy{{Name: "a", Section: "s", Kind: 4}}, api.ErrRange},
		{[]api.Vacancy{{Name: "a", Section: "s", Room: -1}}, api.ErrRange},
		{[]api.Vacancy{{Name: "a", Section: "s", Room: 21}}, api.ErrRange},
		{[]api.Vacancy{{Name: "a", Section: "s", From: -1}}, api.ErrRange},
		{[]api.Vacancy{{Name: "a", Section: "s", From: 200001}}, api.ErrRange},
		{with(plainRooms(make([]int, 59)...), outside), api.ErrRange},
	}
	for _, s := range wrongNames {
		rows = append(rows, row{[]api.Vacancy{{Name: s, Section: "s"}}, api.ErrName}, row{[]api.Vacancy{{Name: "a", Section: s}}, api.ErrName}, row{[]api.Vacancy{{Name: "a", Section: "s", Family: s}}, api.ErrName})
	}
	for _, n := range extremes {
		rows = append(rows, row{[]api.Vacancy{{Name: "a", Section: "s", Kind: n}}, api.ErrRange}, row{[]api.Vacancy{{Name: "a", Section: "s", Room: n}}, api.ErrRange}, row{[]api.Vacancy{{Name: "a", Section: "s", From: n}}, api.ErrRange})
	}
	for _, r := range rows {
		if e := allot.CheckVacancies(r.l); e != r.e {
			t.Error(r.l, e, r.e)
		}
		checkAll(t, "wrong vacancies", allOfPlaces(), places{wishes(), r.l}, r.e)
		checkAll(t, "wrong vacancies", allOfPlaces(), places{nil, r.l}, r.e)
	}
}

// P7.1: a vacancy suits by its kind, its day, its family and its section.
func TestSuits(t *testing.T) {
	w := api.Wish{Name: "w", Family: "smith", Section: "old", Kind: 2, Day: 10}
	v := api.Vacancy{Name: "v", Family: "smith", Section: "old", Kind: 2, Room: 1, From: 10}
	for _, c := range []struct {
		w    func(*api.Wish)
		v    func(*api.Vacancy)
		want bool
	}{
		{func(w *api.Wish) {}, func(v *api.Vacancy) {}, true},
		{func(w *api.Wish) {}, func(v *api.Vacancy) { v.Room = 0 }, true},
		{func(w *api.Wish) { w.Kind = 1 }, func(v *api.Vacancy) {}, false},
		{func(w *api.Wish) { w.Kind = 3 }, func(v *api.Vacancy) {}, false},
		{func(w *api.Wish) { w.Kind = 0 }, func(v *api.Vacancy) { v.Kind = 0 }, true},
		{func(w *api.Wish) { w.Day = 9 }, func(v *api.Vacancy) {}, false},
		{func(w *api.Wish) { w.Day = 11 }, func(v *api.Vacancy) {}, true},
		{func(w *api.Wish) { w.Day = 200000 }, func(v *api.Vacancy) { v.From = 200000 }, true},
		{func(w *api.Wish) { w.Day = 0 }, func(v *api.Vacancy) { v.From = 0 }, true},
		{func(w *api.Wish) {}, func(v *api.Vacancy) { v.Family = "" }, true},
		{func(w *api.Wish) { w.Family = "" }, func(v *api.Vacancy) { v.Family = "" }, true},
		{func(w *api.Wish) { w.Family = "" }, func(v *api.Vacancy) {}, false},
		{func(w *api.Wish) { w.Family = "jones" }, func(v *api.Vacancy) {}, false},
		{func(w *api.Wish) { w.Family = "Smith" }, func(v *api.Vacancy) {}, false},
		{func(w *api.Wish) { w.Section = "" }, func(v *api.Vacancy) {}, true},
		{func(w *api.Wish) { w.Section = "new" }, func(v *api.Vacancy) {}, false},
		{func(w *api.Wish) { w.Section = "smith" }, func(v *api.Vacancy) {}, false},
		{func(w *api.Wish) { w.Name = "v" }, func(v *api.Vacancy) {}, true},
	} {
		w, v := change(w, c.w), change(v, c.v)
		got, e := allot.Suits(w, v)
		check(t, "Suits", got, e, c.want)
		pairs, e := allot.Pairs([]api.Wish{w}, []api.Vacancy{v})
		want := [][]int{{0}}
		if !c.want {
			want = [][]int{{}}
		}
		check(t, "Pairs", pairs, e, want)
	}
}

// P7.1: the error of the wish comes first, then that of the vacancy.
func TestSuitsErrors(t *testing.T) {
	w, v := wishes()[0], vacancies()[0]
	for _, c := range []struct {
		w    func(*api.Wish)
		v    func(*api.Vacancy)
		want api.Errno
	}{
		{func(w *api.Wish) { w.Name = "" }, func(v *api.Vacancy) { v.From = -1 }, api.ErrName},
		{func(w *api.Wish) { w.Day = -1 }, func(v *api.Vacancy) { v.Name = "" }, api.ErrRange},
		{func(w *api.Wish) { w.Kind = 4 }, func(v *api.Vacancy) { v.Section = "" }, api.ErrRange},
		{func(w *api.Wish) {}, func(v *api.Vacancy) { v.Section = "" }, api.ErrName},
		{func(w *api.Wish) {}, func(v *api.Vacancy) { v.Room = 21 }, api.ErrRange},
		{func(w *api.Wish) {}, func(v *api.Vacancy) { v.Name, v.Room = "", 21 }, api.ErrName},
	} {
		got, e := allot.Suits(change(w, c.w), change(v, c.v))
		checkError(t, "Suits", []any{got}, e, c.want)
	}
}

// P7.1: the first example; a vacancy without room suits, too.
func TestPairs(t *testing.T) {
	pairs, e := allot.Pairs(wishes(), vacancies())
	check(t, "Pairs", pairs, e, [][]int{{0, 1}, {1}, {1}})
	pairs, e = allot.Pairs(wishes(), turned())
	check(t, "Pairs turned", pairs, e, [][]int{{0, 1}, {0}, {0}})
	pairs, e = allot.Pairs(plainWishes(2), plainRooms(0, 1, 0))
	check(t, "Pairs without room", pairs, e, [][]int{{0, 1, 2}, {0, 1, 2}})
	pairs, e = allot.Pairs(nil, vacancies())
	check(t, "Pairs without wishes", pairs, e, [][]int{})
	pairs, e = allot.Pairs(wishes(), nil)
	check(t, "Pairs without vacancies", pairs, e, [][]int{{}, {}, {}})
	all := repeat(60, func(i int) int { return i })
	pairs, e = allot.Pairs(plainWishes(60), plainRooms(make([]int, 60)...))
	check(t, "all Pairs", pairs, e, repeat(60, func(int) []int { return all }))
}

// P7.1: Pairs says of each two what Suits says.
func TestPairsAreWhatSuits(t *testing.T) {
	kinds, families := []int{0, 1, 2, 3}, []string{"", "a", "b"}
	var w []api.Wish
	var v []api.Vacancy
	for i := range 60 {
		w = append(w, api.Wish{Name: "w" + strconv.Itoa(i), Family: families[i%3], Section: families[i/3%3], Kind: kinds[i%7%4], Day: i % 5})
		v = append(v, api.Vacancy{Name: "w" + strconv.Itoa(i), Family: families[i%3], Section: families[1+i/3%2], Kind: kinds[i%5%4], From: i % 6})
	}
	pairs, e := allot.Pairs(w, v)
	if e != api.OK || len(pairs) != len(w) {
		t.Fatal(pairs, e)
	}
	for i := range w {
		for j := range v {
			if is, e := allot.Suits(w[i], v[j]); is != slices.Contains(pairs[i], j) || e != api.OK {
				t.Fatal(w[i], v[j], is, pairs[i], e)
			}
		}
		if !slices.IsSorted(pairs[i]) {
			t.Error(pairs[i])
		}
	}
}
