package allot_test

import (
	"testing"

	"mortsafe/allot"
	"mortsafe/api"
)

// P7.3, P7.4: the number that a right allotment places, and the room that it leaves.
func TestCheckAllot(t *testing.T) {
	type row struct {
		w    []api.Wish
		v    []api.Vacancy
		a    []int
		want int
		left []int
	}
	for _, c := range []row{
		{nil, nil, nil, 0, []int{}},
		{nil, vacancies(), []int{}, 0, []int{1, 1, 2}},
		{wishes(), nil, []int{-1, -1, -1}, 0, []int{}},
		{wishes(), vacancies(), []int{-1, -1, -1}, 0, []int{1, 1, 2}},
		{wishes(), vacancies(), []int{0, 1, -1}, 2, []int{0, 0, 2}},
		{wishes(), vacancies(), []int{0, -1, 1}, 2, []int{0, 0, 2}},
		{wishes(), vacancies(), []int{1, -1, -1}, 1, []int{1, 0, 2}},
		{wishes(), turned(), []int{1, -1, 0}, 2, []int{0, 0, 2}},
		{plainWishes(5), plainRooms(2, 0, 4), []int{2, 0, 2, 0, 2}, 5, []int{0, 0, 1}},
		{plainWishes(5), plainRooms(2, 0, 4), []int{2, -1, 2, 2, 2}, 4, []int{2, 0, 0}},
	} {
		n, e := allot.CheckAllot(c.w, c.v, c.a)
		check(t, "CheckAllot", n, e, c.want)
		left, e := allot.Left(c.w, c.v, c.a)
		check(t, "Left", left, e, c.left)
	}
}

// P7.3, P7.4: each error of an allotment, wish by wish.
func TestWrongAllotments(t *testing.T) {
	type row struct {
		w    []api.Wish
		v    []api.Vacancy
		a    []int
		want api.Errno
	}
	rows := []row{
		{wishes(), vacancies(), nil, api.ErrShape},
		{wishes(), vacancies(), []int{0, 1}, api.ErrShape},
		{wishes(), vacancies(), []int{0, 1, -1, -1}, api.ErrShape},
		{wishes(), vacancies(), []int{77, 77}, api.ErrShape},
		{nil, nil, []int{-1}, api.ErrShape},
		{wishes(), vacancies(), []int{3, -1, -1}, api.ErrMissing},
		{wishes(), vacancies(), []int{-2, -1, -1}, api.ErrMissing},
		{wishes(), vacancies(), []int{0, 1, 3}, api.ErrMissing},
		{wishes(), nil, []int{-1, 0, -1}, api.ErrMissing},
		{wishes(), vacancies(), []int{3, 0, -1}, api.ErrMissing},
		{wishes(), vacancies(), []int{2, -1, -1}, api.ErrKind},
		{wishes(), vacancies(), []int{0, 0, -1}, api.ErrKind}, // full, too
		{wishes(), vacancies(), []int{2, 3, -1}, api.ErrKind},
		{wishes(), vacancies(), []int{1, 0, 1}, api.ErrKind},
		{wishes(), vacancies(), []int{-1, 1, 1}, api.ErrFull},
		{wishes(), vacancies(), []int{1, 1, 3}, api.ErrFull},
		{wishes(), vacancies(), []int{1, 1, 0}, api.ErrFull},
		{plainWishes(3), plainRooms(2), []int{0, 0, 0}, api.ErrFull},
		{plainWishes(3), plainRooms(1, 0), []int{0, -1, 1}, api.ErrFull},
	}
	for _, n := range extremes {
		if n != -1 {
			rows = append(rows, row{wishes(), vacancies(), []int{-1, n, -1}, api.ErrMissing})
		}
	}
	for _, c := range rows {
		n, e := allot.CheckAllot(c.w, c.v, c.a)
		checkError(t, "CheckAllot", []any{n}, e, c.want)
		left, e := allot.Left(c.w, c.v, c.a)
		checkError(t, "Left", []any{left}, e, c.want)
	}
}

func cover(wishes, vacancies []int) api.Cover { return api.Cover{Wishes: wishes, Vacancies: vacancies} }

// P7.3: the weight of a cover.
func TestCheckCover(t *testing.T) {
	for _, c := range []struct {
		w    []api.Wish
		v    []api.Vacancy
		c    api.Cover
		want int
	}{
		{nil, nil, api.Cover{}, 0},
		{nil, vacancies(), api.Cover{}, 0},
		{nil, vacancies(), cover(nil, []int{0, 1, 2}), 4},
		{wishes(), nil, api.Cover{}, 0},
		{wishes(), nil, cover([]int{0, 2}, nil), 2},
		{wishes(), vacancies(), cover([]int{0}, []int{1}), 2},
		{wishes(), vacancies(), cover([]int{0, 1, 2}, nil), 3},
		{wishes(), vacancies(), cover([]int{0, 1, 2}, []int{0, 1, 2}), 7},
		{wishes(), vacancies(), cover(nil, []int{0, 1}), 2},
		{wishes(), vacancies(), cover(nil, []int{0, 1, 2}), 4},
		{wishes(), vacancies(), cover([]int{1, 2}, []int{0, 1}), 4},
		{plainWishes(4), plainRooms(0, 0), cover(nil, []int{0, 1}), 0},
		{plainWishes(4), plainRooms(20, 3), cover(nil, []int{0, 1}), 23},
	} {
		got, e := allot.CheckCover(c.w, c.v, c.c)
		check(t, "CheckCover", got, e, c.want)
	}
}

// P7.3: each error of a cover: all of what is missing comes before the order, and that before
// gaps.
func TestWrongCovers(t *testing.T) {
	type row struct {
		c    api.Cover
		want api.Errno
	}
	rows := []row{
		{cover([]int{3}, nil), api.ErrMissing},
		{cover([]int{-1}, nil), api.ErrMissing},
		{cover(nil, []int{3}), api.ErrMissing},
		{cover(nil, []int{-1}), api.ErrMissing},
		{cover([]int{0, 1, 2}, []int{3}), api.ErrMissing},
		{cover([]int{1, 0, 3}, nil), api.ErrMissing},
		{cover([]int{1, 0}, []int{3}), api.ErrMissing},
		{cover([]int{1, 1}, []int{2, 0, -1}), api.ErrMissing},
		{cover([]int{1, 0, 2}, nil), api.ErrOrder},
		{cover([]int{0, 1, 1, 2}, nil), api.ErrOrder},
		{cover([]int{0, 1, 2}, []int{1, 0}), api.ErrOrder},
		{cover([]int{0, 1, 2}, []int{2, 2}), api.ErrOrder},
		{cover([]int{1, 0}, nil), api.ErrOrder},
		{cover(nil, []int{1, 1}), api.ErrOrder},
		{api.Cover{}, api.ErrGap},
		{cover([]int{0}, nil), api.ErrGap},
		{cover(nil, []int{0}), api.ErrGap},
		{cover(nil, []int{1}), api.ErrGap}, // the first wish has vacancy 0, too
		{cover([]int{0, 1}, []int{0, 2}), api.ErrGap},
		{cover([]int{0, 2}, []int{0, 2}), api.ErrGap},
		{cover([]int{1, 2}, []int{0}), api.ErrGap},
		{cover([]int{1, 2}, []int{1}), api.ErrGap},
	}
	for _, n := range extremes {
		rows = append(rows, row{cover([]int{0, 1, n}, nil), api.ErrMissing}, row{cover([]int{0, 1, 2}, []int{n}), api.ErrMissing})
	}
	for _, c := range rows {
		got, e := allot.CheckCover(wishes(), vacancies(), c.c)
		checkError(t, "CheckCover", []any{got}, e, c.want)
	}
	got, e := allot.CheckCover(plainWishes(1), plainRooms(0), api.Cover{})
	checkError(t, "CheckCover without room", []any{got}, e, api.ErrGap)
}

// P7.4: wish by wish the first vacancy that suits and has room left.
func TestInOrder(t *testing.T) {
	for _, c := range []struct {
		w    []api.Wish
		v    []api.Vacancy
		want []int
	}{
		{nil, nil, []int{}},
		{nil, vacancies(), []int{}},
		{wishes(), nil, []int{-1, -1, -1}},
		{wishes(), vacancies(), []int{0, 1, -1}},
		{wishes(), turned(), []int{0, -1, -1}},
		{plainWishes(6), plainRooms(2, 0, 1, 2), []int{0, 0, 2, 3, 3, -1}},
		{plainWishes(2), plainRooms(0, 0), []int{-1, -1}},
		{staircase(1, 0), steps(0, 1), []int{0, -1}},
		{staircase(1, 1, 1, 2, 0), steps(1, 2, 1), []int{0, 2, -1, 1, -1}},
	} {
		got, e := allot.InOrder(c.w, c.v)
		check(t, "InOrder", got, e, c.want)
	}
}
