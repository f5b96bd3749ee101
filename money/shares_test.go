package money_test

import (
	"testing"

	"mortsafe/api"
	"mortsafe/money"
)

// P9.7: the cents that are left go to the greatest remainders, of equal ones to the first ones.
func TestShares(t *testing.T) {
	for _, c := range []struct {
		units []int
		cents int
		want  []int
	}{
		{[]int{1, 1, 1}, 100, []int{34, 33, 33}}, {[]int{1, 1, 1}, 101, []int{34, 34, 33}}, {[]int{1, 1, 1}, 102, []int{34, 34, 34}},
		{[]int{3, 2, 2}, 7, []int{3, 2, 2}}, {[]int{3, 3, 1}, 10, []int{4, 4, 2}}, {[]int{1, 3, 3}, 10, []int{2, 4, 4}}, {[]int{2, 2, 3}, 3, []int{1, 1, 1}},
		{[]int{2, 2, 3}, 1, []int{0, 0, 1}}, {[]int{2, 2, 3}, 2, []int{1, 0, 1}}, {[]int{0, 2}, 5, []int{0, 5}}, {[]int{0, 1, 0, 1, 0}, 3, []int{0, 2, 0, 1, 0}},
		{[]int{5}, 7, []int{7}}, {[]int{1, 2}, 0, []int{0, 0}}, {[]int{1000000}, 1000000000000, []int{1000000000000}},
		{[]int{1000000, 999999}, 1000000000000, []int{500000250000, 499999750000}}, {[]int{1, 1000000}, 1, []int{0, 1}},
		{repeat(40, func(int) int { return 1000000 }), 1000000000000, repeat(40, func(int) int { return 25000000000 })},
		{repeat(40, func(i int) int { return 1 + i/39 }), 39, with(repeat(38, func(int) int { return 1 }), 0, 1)},
	} {
		l, e := money.Shares(c.units, c.cents)
		check(t, "Shares", l, e, c.want)
	}
}

// P9.7: the errors of Shares, in their order.
func TestWrongShares(t *testing.T) {
	many := repeat(41, func(int) int { return 1 })
	type shares struct {
		units []int
		cents int
		want  api.Errno
	}
	l := []shares{
		{nil, 5, api.ErrShape}, {[]int{}, 5, api.ErrShape}, {nil, -1, api.ErrShape}, {many, 5, api.ErrLarge}, {many, -1, api.ErrLarge}, {make([]int, 41), 5, api.ErrLarge},
		{repeat(41, func(int) int { return -1 }), 5, api.ErrLarge}, {[]int{0}, 5, api.ErrZero}, {make([]int, 40), 0, api.ErrZero}, {[]int{0, 0}, 1000000000000, api.ErrZero},
	}
	for _, n := range with(extremes, 1000001) {
		l = append(l, shares{[]int{n}, 5, api.ErrRange}, shares{[]int{1, n}, 5, api.ErrRange}, shares{[]int{0, n, 0}, -1, api.ErrRange})
	}
	for _, n := range noCents {
		l = append(l, shares{[]int{1}, n, api.ErrRange}, shares{[]int{0}, n, api.ErrRange}, shares{[]int{1, 2, 3}, n, api.ErrRange})
	}
	for _, c := range l {
		got, e := money.Shares(c.units, c.cents)
		checkError(t, "Shares", []any{got}, e, c.want)
	}
}
