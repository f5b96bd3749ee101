package allot_test

import (
	"testing"

	"mortsafe/allot"
	"mortsafe/api"
)

// checkPlaced expects that so many wishes are placed, and a cover that proves it.
func checkPlaced(t *testing.T, what string, w []api.Wish, v []api.Vacancy, want int) {
	t.Helper()
	a, c, e := allot.Allot(w, v)
	if e != api.OK {
		t.Fatal(what, e)
	}
	n, e := allot.CheckAllot(w, v, a)
	check(t, what+": CheckAllot", n, e, want)
	n, e = allot.CheckCover(w, v, c)
	check(t, what+": CheckCover", n, e, want)
	n, e = allot.NewGraves(w, v)
	check(t, what+": NewGraves", n, e, len(w)-want)
	first, e := allot.First(w, v)
	if e != api.OK {
		t.Fatal(what, e)
	}
	n, e = allot.CheckAllot(w, v, first)
	check(t, what+": CheckAllot of First", n, e, want)
}

// P7.2: greatest allotments of small and large lists.
func TestAllot(t *testing.T) {
	n := func(i int) int { return i }
	down := func(i int) int { return 59 - i }
	checkPlaced(t, "nothing", nil, nil, 0)
	checkPlaced(t, "no wishes", nil, vacancies(), 0)
	checkPlaced(t, "no vacancies", wishes(), nil, 0)
	checkPlaced(t, "example 1", wishes(), vacancies(), 2)
	checkPlaced(t, "example 2", wishes(), turned(), 2)
	checkPlaced(t, "no room", plainWishes(3), plainRooms(0, 0), 0)
	checkPlaced(t, "some room", plainWishes(7), plainRooms(0, 2, 0, 3, 1), 6)
	checkPlaced(t, "just enough room", plainWishes(7), plainRooms(1, 2, 0, 3, 1), 7)
	checkPlaced(t, "more room", plainWishes(7), plainRooms(20, 20), 7)
	checkPlaced(t, "the most of all", plainWishes(60), plainRooms(20, 20, 20), 60)
	checkPlaced(t, "one too many", plainWishes(60), plainRooms(20, 20, 19), 59)
	checkPlaced(t, "stairs up", staircase(repeat(60, n)...), steps(repeat(60, n)...), 60)
	checkPlaced(t, "stairs down", staircase(repeat(60, down)...), steps(repeat(60, n)...), 60)
	checkPlaced(t, "steps down", staircase(repeat(60, n)...), steps(repeat(60, down)...), 60)
	checkPlaced(t, "both down", staircase(repeat(60, down)...), steps(repeat(60, down)...), 60)
	checkPlaced(t, "a step too late", staircase(repeat(60, down)...), steps(repeat(60, func(i int) int { return i + 1 })...), 59)
	checkPlaced(t, "all too late", staircase(repeat(60, n)...), steps(repeat(60, func(int) int { return 60 })...), 0)
}

// P7.2: the cover's lists ascend, and are those of the first example, of which there is one.
func TestCoverOfExample(t *testing.T) {
	_, c, e := allot.Allot(wishes(), vacancies())
	check(t, "cover", c, e, api.Cover{Wishes: []int{0}, Vacancies: []int{1}})
}

// P7.2: a wish that was placed has to move, or others have to move in a chain.
func TestMoves(t *testing.T) {
	for _, c := range []struct {
		what  string
		days  []int
		steps []int
		want  []int
	}{
		{"one moves", []int{1, 0}, []int{0, 1}, []int{1, 0}},
		{"nobody moves", []int{0, 1}, []int{0, 1}, []int{0, 1}},
		{"two move", []int{2, 1, 0}, []int{0, 1, 2}, []int{2, 1, 0}},
		{"one of two moves", []int{1, 1, 0}, []int{0, 1, 1}, []int{1, 2, 0}},
		{"steps turned", []int{2, 1, 0}, []int{2, 1, 0}, []int{0, 1, 2}},
	} {
		w, v := staircase(c.days...), steps(c.steps...)
		a, _, e := allot.Allot(w, v)
		n, _ := allot.CheckAllot(w, v, a)
		check(t, c.what+": Allot", n, e, len(c.days))
		first, e := allot.First(w, v)
		check(t, c.what+": First", first, e, c.want)
	}
}

// P7.2: the first one of the greatest allotments; new graves come behind all vacancies.
func TestFirst(t *testing.T) {
	for _, c := range []struct {
		what string
		w    []api.Wish
		v    []api.Vacancy
		want []int
	}{
		{"nothing", nil, nil, []int{}},
		{"no vacancies", wishes(), nil, []int{-1, -1, -1}},
		{"no wishes", nil, vacancies(), []int{}},
		{"example 1", wishes(), vacancies(), []int{0, 1, -1}},
		{"example 2", wishes(), turned(), []int{1, 0, -1}},
		{"rooms", plainWishes(6), plainRooms(2, 0, 3), []int{0, 0, 2, 2, 2, -1}},
		{"more room", plainWishes(3), plainRooms(1, 5), []int{0, 1, 1}},
		// the first one takes the place of the second one, since the third one has one of its own
		{"a later one is placed", []api.Wish{{Name: "a", Family: "x"}, {Name: "b"}, {Name: "c", Family: "x", Section: "t"}},
			[]api.Vacancy{{Name: "v", Section: "s", Room: 1}, {Name: "u", Section: "t", Family: "x", Room: 1}}, []int{0, -1, 1}},
		// the first one may not take the place that the second one needs
		{"both are placed", []api.Wish{{Name: "a", Family: "x"}, {Name: "b"}},
			[]api.Vacancy{{Name: "v", Section: "s", Room: 1}, {Name: "u", Section: "t", Family: "x", Room: 1}}, []int{1, 0}},
		{"the first one is placed", plainWishes(2), plainRooms(1), []int{0, -1}},
		{"a place that takes nobody", plainWishes(2), plainRooms(0, 1), []int{1, -1}},
		{"kinds apart", []api.Wish{{Name: "a", Kind: 1}, {Name: "b"}, {Name: "c", Kind: 3}, {Name: "d", Kind: 2}},
			[]api.Vacancy{{Name: "a", Section: "s", Kind: 2, Room: 1}, {Name: "b", Section: "s", Kind: 3, Room: 1}, {Name: "c", Section: "s", Room: 1}, {Name: "d", Section: "s", Kind: 1, Room: 1}}, []int{3, 2, 1, 0}},
	} {
		got, e := allot.First(c.w, c.v)
		check(t, c.what, got, e, c.want)
	}
}

// P7.2: NewGraves counts the wishes that no vacancy is left for.
func TestNewGraves(t *testing.T) {
	for _, c := range []struct {
		w    []api.Wish
		v    []api.Vacancy
		want int
	}{
		{nil, nil, 0}, {nil, vacancies(), 0}, {wishes(), nil, 3}, {wishes(), vacancies(), 1}, {wishes(), turned(), 1},
		{plainWishes(60), plainRooms(20, 20), 20}, {plainWishes(60), plainRooms(20, 20, 20, 20), 0}, {plainWishes(60), nil, 60},
	} {
		got, e := allot.NewGraves(c.w, c.v)
		check(t, "NewGraves", got, e, c.want)
	}
}
