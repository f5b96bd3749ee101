package allot_test

import (
	"slices"
	"testing"

	"mortsafe/allot"
	"mortsafe/api"
)

// days returns the first days of some number.
func days(n int) []int { return repeat(n, func(i int) int { return i }) }

// P7.5: halls are right up to the ends of all ranges.
func TestRightHalls(t *testing.T) {
	for i, how := range []func(*api.Hall){
		func(h *api.Hall) {},
		func(h *api.Hall) { h.Chapels, h.Crews, h.Machines, h.Pause = 1, 1, 0, 0 },
		func(h *api.Hall) { h.Chapels, h.Crews, h.Machines, h.Pause = 6, 10, 5, 120 },
		func(h *api.Hall) { h.Open = [7][2]int{} },
		func(h *api.Hall) { h.Open[6] = [2]int{0, 1} },
		func(h *api.Hall) { h.Open[0] = [2]int{0, 1440} },
		func(h *api.Hall) { h.Open[3] = [2]int{1439, 1440} },
		func(h *api.Hall) { h.Closed = []int{} },
		func(h *api.Hall) { h.Closed = []int{0} },
		func(h *api.Hall) { h.Closed = []int{0, 1, 199999, 200000} },
		func(h *api.Hall) { h.Closed = days(60) },
	} {
		if e := allot.CheckHall(change(hall(), how)); e != api.OK {
			t.Error(i, e)
		}
	}
}

// wrongHall is a hall with an error.
type wrongHall struct {
	how  func(*api.Hall)
	want api.Errno
}

// wrongHalls have each error, and before the ones that are listed behind it.
func wrongHalls() []wrongHall {
	l := []wrongHall{
		{func(h *api.Hall) { *h = api.Hall{} }, api.ErrRange},
		{func(h *api.Hall) { h.Chapels = 0 }, api.ErrRange},
		{func(h *api.Hall) { h.Chapels = 7 }, api.ErrRange},
		{func(h *api.Hall) { h.Crews = 0 }, api.ErrRange},
		{func(h *api.Hall) { h.Crews = 11 }, api.ErrRange},
		{func(h *api.Hall) { h.Machines = -1 }, api.ErrRange},
		{func(h *api.Hall) { h.Machines = 6 }, api.ErrRange},
		{func(h *api.Hall) { h.Pause = -1 }, api.ErrRange},
		{func(h *api.Hall) { h.Pause = 121 }, api.ErrRange},
		{func(h *api.Hall) { h.Pause, h.Open[0], h.Closed = 121, [2]int{5, 5}, days(61) }, api.ErrRange},
		{func(h *api.Hall) { h.Open[0] = [2]int{-1, 100} }, api.ErrRange},
		{func(h *api.Hall) { h.Open[6] = [2]int{0, 1441} }, api.ErrRange},
		{func(h *api.Hall) { h.Open[6] = [2]int{1441, 0} }, api.ErrRange},
		{func(h *api.Hall) { h.Open[3] = [2]int{100, -1} }, api.ErrRange},
		{func(h *api.Hall) { h.Open[3], h.Open[4] = [2]int{1441, 1441}, [2]int{5, 5} }, api.ErrRange},
		{func(h *api.Hall) { h.Open[3], h.Open[4] = [2]int{5, 5}, [2]int{-1, -1} }, api.ErrForm},
		{func(h *api.Hall) { h.Open[0] = [2]int{600, 600} }, api.ErrForm},
		{func(h *api.Hall) { h.Open[6] = [2]int{600, 599} }, api.ErrForm},
		{func(h *api.Hall) { h.Open[6] = [2]int{1, 0} }, api.ErrForm},
		{func(h *api.Hall) { h.Open[6] = [2]int{1440, 1440} }, api.ErrForm},
		{func(h *api.Hall) { h.Open[6], h.Closed = [2]int{5, 5}, days(61) }, api.ErrForm},
		{func(h *api.Hall) { h.Closed = days(61) }, api.ErrLarge},
		{func(h *api.Hall) { h.Closed = with([]int{-1}, days(60)...) }, api.ErrLarge},
		{func(h *api.Hall) { h.Closed = make([]int, 61) }, api.ErrLarge},
		{func(h *api.Hall) { h.Closed = []int{-1} }, api.ErrRange},
		{func(h *api.Hall) { h.Closed = []int{200001} }, api.ErrRange},
		{func(h *api.Hall) { h.Closed = []int{5, 5, -1} }, api.ErrRange},
		{func(h *api.Hall) { h.Closed = []int{5, 4, 200001} }, api.ErrRange},
		{func(h *api.Hall) { h.Closed = []int{5, 5} }, api.ErrOrder},
		{func(h *api.Hall) { h.Closed = []int{5, 6, 4} }, api.ErrOrder},
		{func(h *api.Hall) { h.Closed = with(days(59), 58) }, api.ErrOrder},
	}
	for _, n := range extremes {
		l = append(l,
			wrongHall{func(h *api.Hall) { h.Chapels = n }, api.ErrRange}, wrongHall{func(h *api.Hall) { h.Crews = n }, api.ErrRange},
			wrongHall{func(h *api.Hall) { h.Machines = n }, api.ErrRange}, wrongHall{func(h *api.Hall) { h.Pause = n }, api.ErrRange},
			wrongHall{func(h *api.Hall) { h.Open[5][0] = n }, api.ErrRange}, wrongHall{func(h *api.Hall) { h.Open[2][1] = n }, api.ErrRange},
			wrongHall{func(h *api.Hall) { h.Closed = []int{n} }, api.ErrRange},
		)
	}
	return l
}

// P7.5: the errors of halls, which all functions tell that have one, before those of the
// other arguments.
func TestWrongHalls(t *testing.T) {
	for _, c := range wrongHalls() {
		h := change(hall(), c.how)
		if e := allot.CheckHall(h); e != c.want {
			t.Error(h, e, c.want)
		}
		got, e := allot.OpenOn(h, -1)
		checkError(t, "OpenOn", []any{got}, e, c.want)
		for _, l := range [][]api.Funeral{nil, funerals(2), funerals(31), {{}}} {
			checkAll(t, "a wrong hall", allOfFunerals(), booked{h, l}, c.want)
		}
	}
}

// P7.5: what a day's opening time is: day 5 is a Monday.
func TestOpenOn(t *testing.T) {
	h := hall()
	for i := range 7 {
		h.Open[i] = [2]int{i * 100, i*100 + 60}
	}
	h.Open[4] = [2]int{}
	h.Closed = []int{0, 13, 200000}
	for day, want := range map[int][2]int{
		0: {}, 1: {300, 360}, 2: {}, 3: {500, 560}, 4: {600, 660}, 5: {0, 60}, 6: {100, 160}, 7: {200, 260}, 8: {300, 360},
		12: {0, 60}, 13: {}, 14: {200, 260}, 20: {100, 160}, 199997: {200, 260}, 199998: {300, 360}, 199999: {}, 200000: {},
	} {
		got, e := allot.OpenOn(h, day)
		check(t, "OpenOn", got, e, want)
	}
	for _, day := range with(extremes, 200001) {
		got, e := allot.OpenOn(h, day)
		checkError(t, "OpenOn", []any{got}, e, api.ErrRange)
	}
}

// P7.5: funerals are right up to the ends of all ranges.
func TestRightFunerals(t *testing.T) {
	for i, l := range [][]api.Funeral{
		nil, {}, funerals(30),
		{{Name: "a", Service: 1}},
		{{Name: "a", Service: 600, Dig: 600, Crews: 10, Machine: true}},
		{{Name: "a", Service: 1, From: 200000, Until: 200000}},
		{{Name: "a", Service: 1, From: 0, Until: 60}, {Name: "A", Service: 1, From: 199940, Until: 200000}},
	} {
		if e := allot.CheckFunerals(wide(), l); e != api.OK {
			t.Error(i, e)
		}
	}
	for _, s := range rightNames {
		if e := allot.CheckFunerals(hall(), []api.Funeral{funeral(s)}); e != api.OK {
			t.Error(s, e)
		}
	}
}

// P7.5: each error of a funeral, and before the ones that are listed behind it.
func TestWrongFunerals(t *testing.T) {
	h := change(hall(), func(h *api.Hall) { h.Crews = 2 })
	bare := change(h, func(h *api.Hall) { h.Machines = 0 })
	type row struct {
		h    api.Hall
		l    []api.Funeral
		want api.Errno
	}
	one := func(how func(*api.Funeral), want api.Errno) row {
		return row{h, []api.Funeral{change(funeral("f"), how)}, want}
	}
	all := func(f *api.Funeral) { f.From, f.Until, f.Crews = 100, 50, 3 }
	rows := []row{
		{h, funerals(31), api.ErrLarge},
		{h, with(funerals(30), api.Funeral{}), api.ErrLarge},
		{h, []api.Funeral{{}}, api.ErrName},
		{h, []api.Funeral{funeral("a"), {Name: "-"}}, api.ErrName},
		{h, []api.Funeral{funeral("a"), funeral("a")}, api.ErrExists},
		{h, []api.Funeral{funeral("a"), funeral("b"), {Name: "a"}}, api.ErrExists},
		{h, []api.Funeral{funeral("a"), funeral("a"), {}}, api.ErrExists},
		{h, []api.Funeral{{Name: "a"}, {Name: "a"}}, api.ErrRange},
		{h, []api.Funeral{{Name: "a"}, {}}, api.ErrRange},
		one(func(f *api.Funeral) { f.From = -1 }, api.ErrRange),
		one(func(f *api.Funeral) { f.Until = 200001 }, api.ErrRange),
		one(func(f *api.Funeral) { f.From, f.Until = 7, -1 }, api.ErrRange),
		one(func(f *api.Funeral) { f.From, f.Until = 200001, 200001 }, api.ErrRange),
		one(func(f *api.Funeral) { f.Service = 0 }, api.ErrRange),
		one(func(f *api.Funeral) { f.Service = 601 }, api.ErrRange),
		one(func(f *api.Funeral) { f.Dig = -1 }, api.ErrRange),
		one(func(f *api.Funeral) { f.Dig = 601 }, api.ErrRange),
		one(func(f *api.Funeral) { f.Crews = -1 }, api.ErrRange),
		one(func(f *api.Funeral) { f.Crews = 11 }, api.ErrRange),
		one(func(f *api.Funeral) { all(f); f.Dig = 601 }, api.ErrRange),
		one(all, api.ErrOrder),
		one(func(f *api.Funeral) { f.Until = 4 }, api.ErrOrder),
		one(func(f *api.Funeral) { f.Until = 66 }, api.ErrOrder),
		one(func(f *api.Funeral) { f.From, f.Until = 200000, 0 }, api.ErrOrder),
		one(func(f *api.Funeral) { f.From, f.Until = 0, 200000 }, api.ErrOrder),
		{bare, []api.Funeral{change(funeral("a"), func(f *api.Funeral) { f.Until = 4 })}, api.ErrOrder},
		one(func(f *api.Funeral) { f.Crews = 3 }, api.ErrStock),
		one(func(f *api.Funeral) { f.Crews, f.Until = 3, 65 }, api.ErrStock),
		one(func(f *api.Funeral) { f.Crews = 10 }, api.ErrStock),
		{bare, []api.Funeral{funeral("a")}, api.ErrStock},
		{bare, []api.Funeral{change(funeral("a"), func(f *api.Funeral) { f.Dig = 0 })}, api.ErrStock},
		{bare, []api.Funeral{funeral("a"), {}}, api.ErrStock},
		{h, with(funerals(28), change(funeral("a"), func(f *api.Funeral) { f.Crews = 3 })), api.ErrStock},
	}
	for _, s := range with(wrongNames, "") {
		rows = append(rows, row{h, []api.Funeral{{Name: s}}, api.ErrName})
	}
	for _, n := range extremes {
		rows = append(rows,
			one(func(f *api.Funeral) { f.From = n }, api.ErrRange), one(func(f *api.Funeral) { f.Until = n }, api.ErrRange),
			one(func(f *api.Funeral) { f.Service = n }, api.ErrRange), one(func(f *api.Funeral) { f.Dig = n }, api.ErrRange),
			one(func(f *api.Funeral) { f.Crews = n }, api.ErrRange),
		)
	}
	for _, c := range rows {
		checkAll(t, "wrong funerals", allOfFunerals(), booked{c.h, c.l}, c.want)
		last := len(c.l) - 1
		got, e := allot.Earliest(c.h, c.l[:last], repeat(77, func(int) api.Slot { return none() }), c.l[last])
		checkError(t, "Earliest", []any{got}, e, c.want)
	}
	without := change(funeral("a"), func(f *api.Funeral) { f.Machine = false })
	if e := allot.CheckFunerals(bare, []api.Funeral{without}); e != api.OK {
		t.Error(e)
	}
	if e := allot.CheckFunerals(h, []api.Funeral{change(without, func(f *api.Funeral) { f.Crews = 2 })}); e != api.OK {
		t.Error(e)
	}
}

// P7.5: the first element with an error decides, wherever it stands.
func TestFirstFuneralDecides(t *testing.T) {
	broken := []struct {
		how  func(*api.Funeral)
		want api.Errno
	}{
		{func(f *api.Funeral) { f.Name = "" }, api.ErrName}, {func(f *api.Funeral) { f.Name = "x" }, api.ErrExists},
		{func(f *api.Funeral) { f.Service = 0 }, api.ErrRange}, {func(f *api.Funeral) { f.Until = 0 }, api.ErrOrder},
		{func(f *api.Funeral) { f.Crews = 2 }, api.ErrStock},
	}
	for _, a := range broken {
		for _, b := range broken {
			l := []api.Funeral{funeral("x"), change(funeral("a"), a.how), change(funeral("b"), b.how)}
			if e := allot.CheckFunerals(hall(), l); e != a.want {
				t.Error(l, e, a.want)
			}
			slices.Reverse(l[1:])
			if e := allot.CheckFunerals(hall(), l); e != b.want {
				t.Error(l, e, b.want)
			}
		}
	}
}
