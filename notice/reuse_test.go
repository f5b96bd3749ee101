package notice_test

import (
	"testing"

	"mortsafe/api"
	"mortsafe/notice"
)

// runningNotice may be acted on from day 34 on.
func runningNotice() api.Notice { return opened(0, [3]int{0, api.Served}) }

func reuse(right, rest int, n api.Notice) api.Reuse {
	return api.Reuse{Right: right, Rest: rest, Notice: n}
}

// P8.7: the first day on which nothing blocks is the last one of three.
func TestEarliest(t *testing.T) {
	for _, c := range []struct {
		r     api.Reuse
		want  int
		wrong api.Errno
	}{
		{reuse(0, 0, runningNotice()), 34, api.OK}, {reuse(34, 34, runningNotice()), 34, api.OK}, {reuse(35, 0, runningNotice()), 35, api.OK},
		{reuse(0, 35, runningNotice()), 35, api.OK}, {reuse(40, 50, runningNotice()), 50, api.OK}, {reuse(200000, 50, runningNotice()), 200000, api.OK},
		{reuse(5, 200000, runningNotice()), 200000, api.OK}, {reuse(-1, 50, runningNotice()), 0, api.ErrNone}, {reuse(50, -1, runningNotice()), 0, api.ErrNone},
		{reuse(-1, -1, runningNotice()), 0, api.ErrNone}, {reuse(5, 5, opened(0)), 0, api.ErrNone}, {reuse(-1, -1, opened(0)), 0, api.ErrNone},
		{reuse(5, 5, opened(0, inPhase()[2]...)), 0, api.ErrNone}, {reuse(5, 5, opened(0, inPhase()[3]...)), 0, api.ErrNone},
		{reuse(5, 5, opened(0, inPhase()[4]...)), 0, api.ErrNone}, {reuse(5, 5, opened(0, inPhase()[5]...)), 0, api.ErrNone},
	} {
		got, e := notice.Earliest(procedure(), c.r)
		checkAnswer(t, "Earliest", got, e, c.want, c.wrong)
	}
	// A notice that waits behind all days may never be acted on.
	p := change(procedure(), func(p *api.Procedure) { p.Wait = api.Period{Months: 1200, Days: 36500} })
	r := reuse(5, 5, opened(150000, [3]int{150000, api.Served}))
	got, e := notice.Earliest(p, r)
	checkError(t, "Earliest", []any{got}, e, api.ErrNone)
	blocks, e := notice.Blocks(p, r, 200000)
	check(t, "Blocks", blocks, e, []int{2})
}

// P8.7: what blocks on which days.
func TestBlocks(t *testing.T) {
	for _, c := range []struct {
		r    api.Reuse
		day  int
		want []int
	}{
		{reuse(40, 100, runningNotice()), 0, []int{0, 1, 2}}, {reuse(40, 100, runningNotice()), 33, []int{0, 1, 2}}, {reuse(40, 100, runningNotice()), 34, []int{0, 1}},
		{reuse(40, 100, runningNotice()), 39, []int{0, 1}}, {reuse(40, 100, runningNotice()), 40, []int{1}}, {reuse(40, 100, runningNotice()), 99, []int{1}},
		{reuse(40, 100, runningNotice()), 100, nil}, {reuse(40, 100, runningNotice()), 200000, nil}, {reuse(100, 40, runningNotice()), 50, []int{0}},
		{reuse(-1, 0, runningNotice()), 200000, []int{0}}, {reuse(0, -1, runningNotice()), 200000, []int{1}}, {reuse(-1, -1, opened(5)), 200000, []int{0, 1, 2}},
		{reuse(0, 0, opened(5)), 0, []int{2}}, {reuse(0, 0, opened(5)), 200000, []int{2}}, {reuse(0, 0, runningNotice()), 0, []int{2}},
		{reuse(0, 0, opened(0, inPhase()[2]...)), 200000, []int{2}}, {reuse(0, 0, opened(0, inPhase()[3]...)), 200000, []int{2}},
		{reuse(0, 0, opened(0, inPhase()[4]...)), 200000, []int{2}}, {reuse(0, 0, opened(0, inPhase()[5]...)), 200000, []int{2}},
		{reuse(200000, 200000, runningNotice()), 199999, []int{0, 1}}, {reuse(200000, 200000, runningNotice()), 200000, nil},
		// An act of a later day counts: the notice may not be acted on from 34 on.
		{reuse(0, 0, opened(0, [3]int{0, api.Served}, [3]int{33, api.Extended, 30})), 34, []int{2}},
	} {
		got, e := notice.Blocks(procedure(), c.r, c.day)
		check(t, "Blocks", got, e, c.want)
	}
}

// P8.7: the errors of a reuse come before those of its notice, and those before that of a day;
// Blocks has no ErrNone.
func TestWrongReuses(t *testing.T) {
	wrongBoth := func(r api.Reuse, want api.Errno) {
		t.Helper()
		got, e := notice.Earliest(procedure(), r)
		checkError(t, "Earliest", []any{got}, e, want)
		blocks, e := notice.Blocks(procedure(), r, -1)
		checkError(t, "Blocks", []any{blocks}, e, want)
	}
	for _, n := range with(noDays, -2) {
		if n != -1 {
			wrongBoth(reuse(n, 0, wrongNotice()), api.ErrRange)
			wrongBoth(reuse(0, n, wrongNotice()), api.ErrRange)
			wrongBoth(reuse(-1, n, runningNotice()), api.ErrRange)
		}
		got, e := notice.Blocks(procedure(), reuse(0, -1, opened(5)), n)
		checkError(t, "Blocks on no day", []any{got}, e, api.ErrRange)
	}
	wrongBoth(reuse(-1, -1, wrongNotice()), api.ErrName)
	wrongBoth(reuse(-1, 5, opened(0, [3]int{0, api.Upheld})), api.ErrState)
	wrongBoth(reuse(5, 200000, opened(0, make([][3]int, 41)...)), api.ErrLarge)
}
