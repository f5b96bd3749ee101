package allot_test

import (
	"math"
	"testing"

	"mortsafe/allot"
	"mortsafe/api"
)

// accepted is what Accept has to say of slots.
type accepted struct {
	what string
	s    []api.Slot
	n    int
	e    api.Errno
}

func checkAccepted(t *testing.T, h api.Hall, l []api.Funeral, rows []accepted) {
	t.Helper()
	for _, c := range rows {
		if n, e := allot.Accept(h, l, c.s); n != c.n || e != c.e {
			t.Errorf("%s: %d %d, not %d %d", c.what, n, e, c.n, c.e)
		}
	}
}

func slots(l ...api.Slot) []api.Slot { return l }

// P7.6: slots that are right, and as many as there are funerals.
func TestAcceptShape(t *testing.T) {
	checkAccepted(t, hall(), nil, []accepted{
		{"nothing", nil, -1, api.OK},
		{"empty", slots(), -1, api.OK},
		{"a slot too many", slots(none()), 0, api.ErrShape},
	})
	checkAccepted(t, hall(), funerals(3), []accepted{
		{"no slots", nil, 0, api.ErrShape},
		{"a slot too few", slots(none(), none()), 0, api.ErrShape},
		{"a slot too many", slots(none(), none(), none(), none()), 0, api.ErrShape},
		{"wrong ones too few", slots(slot(-7, 0, 0)), 0, api.ErrShape},
		{"without any", slots(none(), none(), none()), -1, api.OK},
		{"none with other numbers", slots(slot(-1, 77, 77), slot(-1, math.MinInt, math.MaxInt), slot(-1, math.MaxInt, -1)), -1, api.OK},
		{"one", slots(none(), slot(5, 600, 0), none()), -1, api.OK},
		{"all", slots(slot(7, 600, 0), slot(5, 700, 0), slot(6, 900, 0)), -1, api.OK},
		{"the example's", slots(slot(5, 600, 0), slot(5, 780, 0), slot(6, 600, 0)), -1, api.OK},
		{"turned", slots(slot(5, 780, 0), slot(6, 600, 0), slot(5, 600, 0)), -1, api.OK},
	})
}

// P7.6: the rules that a funeral breaks by itself, at their ends: the hall is open from 480 to
// 960, the funeral digs for 120 and lasts for 60.
func TestAcceptAlone(t *testing.T) {
	h := change(hall(), func(h *api.Hall) { h.Chapels, h.Closed = 2, []int{7} })
	rows := []accepted{
		{"the first minute", slots(slot(5, 600, 0)), -1, api.OK},
		{"the last minute", slots(slot(5, 900, 1)), -1, api.OK},
		{"the last day", slots(slot(6, 700, 1)), -1, api.OK},
		{"day -2", slots(slot(-2, 600, 0)), 0, api.ErrRange},
		{"day 200001", slots(slot(200001, 600, 0)), 0, api.ErrRange},
		{"minute -1", slots(slot(5, -1, 0)), 0, api.ErrRange},
		{"minute 1441", slots(slot(5, 1441, 0)), 0, api.ErrRange},
		{"chapel -1", slots(slot(5, 600, -1)), 0, api.ErrRange},
		{"chapel 2", slots(slot(5, 600, 2)), 0, api.ErrRange},
		{"out of range before early", slots(slot(4, 1441, 0)), 0, api.ErrRange},
		{"out of range before late", slots(slot(9, 600, 2)), 0, api.ErrRange},
		{"early", slots(slot(4, 600, 0)), 0, api.ErrEarly},
		{"day 0", slots(slot(0, 600, 0)), 0, api.ErrEarly},
		{"early before closed", slots(slot(3, 0, 0)), 0, api.ErrEarly},
		{"late", slots(slot(9, 600, 0)), 0, api.ErrLate},
		{"day 200000", slots(slot(200000, 600, 0)), 0, api.ErrLate},
		{"late before closed", slots(slot(10, 0, 0)), 0, api.ErrLate},
		{"a closed day", slots(slot(7, 600, 0)), 0, api.ErrState},
		{"digging too early", slots(slot(5, 599, 0)), 0, api.ErrState},
		{"a service too late", slots(slot(5, 901, 0)), 0, api.ErrState},
		{"minute 0", slots(slot(5, 0, 0)), 0, api.ErrState},
		{"minute 1440", slots(slot(5, 1440, 0)), 0, api.ErrState},
	}
	for _, n := range extremes {
		rows = append(rows, accepted{"a minute", slots(slot(5, n, 0)), 0, api.ErrRange}, accepted{"a chapel", slots(slot(5, 600, n)), 0, api.ErrRange})
		if n != -1 {
			rows = append(rows, accepted{"a day", slots(slot(n, 600, 0)), 0, api.ErrRange})
		}
	}
	l := []api.Funeral{change(funeral("f"), func(f *api.Funeral) { f.Until = 8 })}
	checkAccepted(t, h, l, rows)
	l[0].Until = 12
	checkAccepted(t, h, l, []accepted{
		{"a Saturday", slots(slot(10, 600, 0)), 0, api.ErrState},
		{"a Sunday", slots(slot(11, 600, 0)), 0, api.ErrState},
		{"the next Monday", slots(slot(12, 600, 0)), -1, api.OK},
	})
	night := change(h, func(h *api.Hall) { h.Open[0] = [2]int{0, 60} })
	checkAccepted(t, night, []api.Funeral{{Name: "f", From: 5, Until: 5, Service: 60}}, []accepted{{"from minute 0 on", slots(slot(5, 0, 0)), -1, api.OK}})
	checkAccepted(t, wide(), []api.Funeral{{Name: "f", From: 0, Until: 0, Service: 1}}, []accepted{
		{"to the last minute", slots(slot(0, 1439, 5)), -1, api.OK},
		{"behind the last minute", slots(slot(0, 1440, 5)), 0, api.ErrState},
		{"day 0 from minute 0 on", slots(slot(0, 0, 0)), -1, api.OK},
	})
}

// P7.6: in one chapel a pause lies between services; a funeral before it in the list decides,
// at whatever time it is.
func TestAcceptBusy(t *testing.T) {
	h := change(wide(), func(h *api.Hall) { h.Chapels, h.Pause = 2, 30 })
	l := []api.Funeral{plain("a", 60), plain("b", 90)}
	at := func(minute int) []api.Slot { return slots(slot(5, 600, 1), slot(5, minute, 1)) }
	checkAccepted(t, h, l, []accepted{
		{"just behind it", at(690), -1, api.OK},
		{"too soon behind it", at(689), 1, api.ErrBusy},
		{"at its end", at(660), 1, api.ErrBusy},
		{"within it", at(620), 1, api.ErrBusy},
		{"with it", at(600), 1, api.ErrBusy},
		{"around it", at(590), 1, api.ErrBusy},
		{"to its beginning", at(510), 1, api.ErrBusy},
		{"too late before it", at(481), 1, api.ErrBusy},
		{"just before it", at(480), -1, api.OK},
		{"in another chapel", slots(slot(5, 600, 1), slot(5, 600, 0)), -1, api.OK},
		{"on another day", slots(slot(5, 600, 1), slot(6, 600, 1)), -1, api.OK},
		{"without a slot", slots(none(), slot(5, 600, 1)), -1, api.OK},
		{"as if it had one", slots(slot(-1, 600, 1), slot(-1, 600, 1)), -1, api.OK},
		{"as if it had the same one", slots(slot(-1, 600, 1), slot(5, 600, 1)), -1, api.OK},
	})
	h.Pause = 0
	checkAccepted(t, h, l, []accepted{
		{"without a pause", at(660), -1, api.OK},
		{"without a pause, before it", at(510), -1, api.OK},
		{"a minute too soon", at(659), 1, api.ErrBusy},
		{"a minute too late", at(511), 1, api.ErrBusy},
	})
	three := with(l, plain("c", 1))
	checkAccepted(t, h, three, []accepted{
		{"the first one decides", slots(slot(5, 600, 0), slot(5, 600, 1), slot(5, 659, 0)), 2, api.ErrBusy},
		{"the second one decides", slots(slot(5, 600, 0), slot(5, 600, 1), slot(5, 689, 1)), 2, api.ErrBusy},
		{"the first wrong one", slots(slot(5, 600, 0), slot(5, 600, 0), slot(5, 600, 7)), 1, api.ErrBusy},
		{"the first one is wrong", slots(slot(5, 600, 7), slot(5, 600, 0), slot(5, 600, 0)), 0, api.ErrRange},
	})
}

// P7.6: the pause counts in chapels alone, and not at the opening or closing.
func TestPauseIsBetweenServices(t *testing.T) {
	h := change(hall(), func(h *api.Hall) { h.Chapels, h.Crews = 2, 2 })
	l := []api.Funeral{
		{Name: "a", From: 5, Until: 5, Service: 240, Crews: 2}, {Name: "b", From: 5, Until: 5, Service: 240, Crews: 2},
	}
	checkAccepted(t, h, l, []accepted{
		{"crews without a pause", slots(slot(5, 480, 0), slot(5, 720, 1)), -1, api.OK},
		{"the chapel with a pause", slots(slot(5, 480, 0), slot(5, 720, 0)), 1, api.ErrBusy},
	})
}

// P7.6: crews from the digging to the end of the service.
func TestAcceptCrews(t *testing.T) {
	h := change(wide(), func(h *api.Hall) { h.Crews = 3 })
	l := []api.Funeral{
		{Name: "a", Until: 60, Service: 60, Dig: 100, Crews: 2}, // from 500 to 660
		{Name: "b", Until: 60, Service: 40, Dig: 20, Crews: 2},
		{Name: "c", Until: 60, Service: 200, Dig: 200, Crews: 1},
	}
	at := func(b, c api.Slot) []api.Slot { return slots(slot(5, 600, 0), b, c) }
	checkAccepted(t, h, l, []accepted{
		{"behind it", at(slot(5, 680, 1), none()), -1, api.OK},
		{"a minute too early", at(slot(5, 679, 1), none()), 1, api.ErrStock},
		{"within it", at(slot(5, 560, 1), none()), 1, api.ErrStock},
		{"a minute too late", at(slot(5, 461, 1), none()), 1, api.ErrStock},
		{"before it", at(slot(5, 460, 1), none()), -1, api.OK},
		{"on another day", at(slot(6, 600, 1), none()), -1, api.OK},
		{"one crew is left", at(slot(5, 680, 1), slot(5, 600, 2)), -1, api.OK},
		{"without the second one", at(none(), slot(5, 600, 2)), -1, api.OK},
		{"busy before out of stock", at(slot(5, 600, 0), none()), 1, api.ErrBusy},
	})
	l[2].Crews = 2
	checkAccepted(t, h, l, []accepted{
		{"around the second one", slots(none(), slot(5, 600, 1), slot(5, 600, 2)), 2, api.ErrStock},
		{"two crews between the others", slots(slot(5, 200, 0), slot(5, 900, 0), slot(5, 500, 1)), -1, api.OK},
		{"into the second one", slots(slot(5, 200, 0), slot(5, 719, 0), slot(5, 500, 1)), 2, api.ErrStock},
		{"just before the second one", slots(slot(5, 200, 0), slot(5, 720, 0), slot(5, 500, 1)), -1, api.OK},
		{"into the first one", slots(slot(5, 241, 0), slot(5, 720, 0), slot(5, 500, 1)), 2, api.ErrStock},
		{"just behind the first one", slots(slot(5, 240, 0), slot(5, 720, 0), slot(5, 500, 1)), -1, api.OK},
	})
	many := repeat(11, func(i int) api.Funeral { return api.Funeral{Name: "f" + string(rune('a'+i)), Service: 1, Crews: 1} })
	spread := repeat(11, func(i int) api.Slot { return slot(0, i/6, i%6) })
	checkAccepted(t, wide(), many, []accepted{{"six at a time", spread, -1, api.OK}})
	checkAccepted(t, change(wide(), func(h *api.Hall) { h.Crews = 6 }), many, []accepted{{"just enough", spread, -1, api.OK}})
	checkAccepted(t, change(wide(), func(h *api.Hall) { h.Crews = 5 }), many, []accepted{{"the sixth is too many", spread, 5, api.ErrStock}})
}

// P7.6: funerals without crews use none, and machines dig before the service alone.
func TestAcceptMachines(t *testing.T) {
	l := []api.Funeral{
		{Name: "a", Until: 60, Service: 60, Dig: 100, Machine: true}, // from 500 to 600
		{Name: "b", Until: 60, Service: 40, Dig: 20, Machine: true},
		{Name: "c", Until: 60, Service: 40, Dig: 200, Machine: true},
	}
	at := func(b, c api.Slot) []api.Slot { return slots(slot(5, 600, 0), b, c) }
	h := change(wide(), func(h *api.Hall) { h.Machines = 1 })
	checkAccepted(t, h, l, []accepted{
		{"behind the digging", at(slot(5, 620, 1), none()), -1, api.OK},
		{"a minute too early", at(slot(5, 619, 1), none()), 1, api.ErrStock},
		{"within it", at(slot(5, 550, 1), none()), 1, api.ErrStock},
		{"a minute too late", at(slot(5, 501, 1), none()), 1, api.ErrStock},
		{"before it", at(slot(5, 500, 1), none()), -1, api.OK},
		{"another day", at(slot(4, 600, 1), none()), -1, api.OK},
		{"without the first one", slots(none(), slot(5, 600, 1), none()), -1, api.OK},
		{"around both", at(slot(5, 500, 1), slot(5, 650, 2)), 2, api.ErrStock},
		{"between both", slots(slot(5, 300, 0), slot(5, 520, 1), slot(5, 500, 2)), -1, api.OK},
	})
	h.Machines = 2
	checkAccepted(t, h, l, []accepted{
		{"one digs for each", at(slot(5, 600, 1), none()), -1, api.OK},
		{"three dig", at(slot(5, 600, 1), slot(5, 600, 2)), 2, api.ErrStock},
		{"two dig at a time", at(slot(5, 500, 1), slot(5, 680, 2)), -1, api.OK},
	})
	h.Machines = 1
	l[1].Machine = false
	checkAccepted(t, h, l, []accepted{{"without a machine", at(slot(5, 600, 1), none()), -1, api.OK}})
	l[1].Machine, l[1].Dig = true, 0
	checkAccepted(t, h, l, []accepted{
		{"no time of a machine", at(slot(5, 550, 1), none()), -1, api.OK},
		{"no time, at the beginning", at(slot(5, 500, 1), none()), -1, api.OK},
		{"no time, first", slots(none(), slot(5, 550, 1), slot(5, 600, 0)), -1, api.OK},
	})
}

// P7.6: which one of two breaks a rule depends on the order of the list, not of times.
func TestAcceptByList(t *testing.T) {
	l := funerals(2)
	for _, s := range [][]api.Slot{slots(slot(5, 780, 0), slot(5, 779, 0)), slots(slot(5, 779, 0), slot(5, 780, 0))} {
		checkAccepted(t, hall(), l, []accepted{{"two at a time", s, 1, api.ErrBusy}})
	}
	late := slots(slot(5, 780, 0), slot(5, 601, 0))
	checkAccepted(t, hall(), l, []accepted{{"an earlier one behind in the list", late, 1, api.ErrStock}})
}

// P7.6: the crews at a minute, of the example's first two slots.
func TestCrewsAt(t *testing.T) {
	l, s := funerals(2), slots(slot(5, 600, 0), slot(5, 780, 0))
	for minute, want := range map[int]int{0: 0, 479: 0, 480: 1, 599: 1, 600: 1, 659: 1, 660: 1, 839: 1, 840: 0, 1440: 0} {
		got, e := allot.CrewsAt(hall(), l, s, 5, minute)
		check(t, "CrewsAt", got, e, want)
		got, e = allot.CrewsAt(hall(), l, s, 6, minute)
		check(t, "CrewsAt on another day", got, e, 0)
	}
}

// P7.6: slots need not be right for that.
func TestCrewsOfWrongSlots(t *testing.T) {
	h := change(wide(), func(h *api.Hall) { h.Open[0] = [2]int{} })
	l := []api.Funeral{
		{Name: "a", From: 9, Until: 9, Service: 10, Dig: 10, Crews: 10},
		{Name: "b", Until: 60, Service: 10, Crews: 7},
		{Name: "c", Until: 60, Service: 600, Dig: 600, Crews: 5},
	}
	for _, c := range []struct {
		a, b, c     api.Slot
		day, minute int
		want        int
	}{
		{slot(5, 100, 0), slot(5, 100, 0), slot(5, 100, 0), 5, 100, 22},
		{slot(5, 100, 0), slot(5, 100, 0), slot(5, 100, 0), 5, 90, 15},
		{slot(5, 100, 0), slot(5, 100, 0), slot(5, 100, 0), 5, 89, 5},
		{slot(5, 100, 0), slot(5, 100, 0), slot(5, 100, 0), 5, 109, 22},
		{slot(5, 100, 0), slot(5, 100, 0), slot(5, 100, 0), 5, 110, 5},
		{slot(5, 100, -7), slot(5, 100, 77), slot(5, 100, math.MinInt), 5, 100, 22},
		{slot(5, 1445, 0), slot(5, 1441, 0), slot(5, 2040, 0), 5, 1440, 15},
		{slot(5, 0, 0), slot(5, -9, 0), slot(5, -599, 0), 5, 0, 22},
		{slot(5, -10, 0), slot(5, -10, 0), slot(5, -600, 0), 5, 0, 0},
		{slot(5, 1451, 0), slot(5, 1441, 0), slot(5, 2041, 0), 5, 1440, 0},
		{slot(-1, 100, 0), slot(4, 100, 0), slot(5, 100, 0), 5, 100, 5},
		{slot(-1, 100, 0), slot(200001, 100, 0), slot(200000, 100, 0), 200000, 100, 5},
		{slot(0, 100, 0), slot(-1, 100, 0), slot(1, 100, 0), 0, 100, 10},
		{slot(5, math.MinInt, 0), slot(5, math.MaxInt, 0), slot(math.MinInt, 100, 0), 5, 0, 0},
		{slot(5, math.MinInt+5, 0), slot(5, math.MinInt, 0), slot(5, math.MinInt+599, 0), 5, 1440, 0},
		{slot(5, math.MaxInt, 0), slot(5, math.MaxInt-5, 0), slot(5, math.MaxInt-599, 0), 5, 1440, 0},
	} {
		got, e := allot.CrewsAt(h, l, slots(c.a, c.b, c.c), c.day, c.minute)
		check(t, "CrewsAt", got, e, c.want)
	}
}

// P7.6: the errors of CrewsAt in their order.
func TestCrewsAtErrors(t *testing.T) {
	two := slots(none(), none())
	for _, c := range []struct {
		s           []api.Slot
		day, minute int
		want        api.Errno
	}{
		{nil, -1, -1, api.ErrShape}, {two[:1], 0, 0, api.ErrShape}, {with(two, none()), 0, 0, api.ErrShape},
		{two, -1, 0, api.ErrRange}, {two, 200001, 0, api.ErrRange}, {two, 0, -1, api.ErrRange}, {two, 0, 1441, api.ErrRange},
		{two, math.MinInt, 0, api.ErrRange}, {two, math.MaxInt, 0, api.ErrRange}, {two, 0, math.MinInt, api.ErrRange}, {two, 0, math.MaxInt, api.ErrRange},
	} {
		got, e := allot.CrewsAt(hall(), funerals(2), c.s, c.day, c.minute)
		checkError(t, "CrewsAt", []any{got}, e, c.want)
	}
	got, e := allot.CrewsAt(hall(), nil, nil, 200000, 1440)
	check(t, "CrewsAt without funerals", got, e, 0)
}
