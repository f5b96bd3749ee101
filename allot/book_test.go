package allot_test

import (
	"testing"

	"mortsafe/allot"
	"mortsafe/api"
)

// P7.7: the third example.
func TestBook(t *testing.T) {
	got, e := allot.Book(hall(), funerals(3))
	check(t, "Book", got, e, slots(slot(5, 600, 0), slot(5, 780, 0), slot(6, 600, 0)))
	got, e = allot.Book(hall(), funerals(8))
	check(t, "Book of eight", got, e, slots(slot(5, 600, 0), slot(5, 780, 0), slot(6, 600, 0), slot(6, 780, 0), slot(7, 600, 0), slot(7, 780, 0), none(), none()))
	got, e = allot.Book(hall(), nil)
	check(t, "Book of nothing", got, e, slots())
	got, e = allot.Book(change(hall(), func(h *api.Hall) { h.Open = [7][2]int{} }), funerals(2))
	check(t, "Book of a closed hall", got, e, slots(none(), none()))
}

// P7.7: one that finds no slot leaves room for those behind it, and an earlier time may be
// found behind a later one.
func TestBookBehindOthers(t *testing.T) {
	l := []api.Funeral{
		{Name: "a", From: 6, Until: 6, Service: 60}, {Name: "b", From: 5, Until: 6, Service: 481},
		{Name: "c", From: 5, Until: 6, Service: 480}, {Name: "d", From: 5, Until: 6, Service: 300},
		{Name: "e", From: 5, Until: 6, Service: 90}, {Name: "f", From: 0, Until: 0, Service: 480}, {Name: "g", From: 3, Until: 4, Service: 1},
	}
	got, e := allot.Book(hall(), l)
	check(t, "Book", got, e, slots(slot(6, 480, 0), none(), slot(5, 480, 0), slot(6, 570, 0), none(), slot(0, 480, 0), none()))
}

// P7.7: by day, then minute, then chapel.
func TestEarliestOrder(t *testing.T) {
	h := change(wide(), func(h *api.Hall) { h.Chapels, h.Pause, h.Open[0] = 2, 10, [2]int{100, 200} })
	l := []api.Funeral{{Name: "a", Until: 60, Service: 50}, {Name: "b", Until: 60, Service: 30}, {Name: "c", Until: 60, Service: 20}}
	f := api.Funeral{Name: "f", From: 5, Until: 65, Service: 40}
	for _, c := range []struct {
		what string
		s    []api.Slot
		want api.Slot
	}{
		{"the first chapel", slots(none(), none(), none()), slot(5, 100, 0)},
		{"another day", slots(slot(6, 100, 0), slot(4, 100, 0), slot(12, 100, 0)), slot(5, 100, 0)},
		{"the second chapel", slots(slot(5, 100, 0), none(), none()), slot(5, 100, 1)},
		{"the first one before a later one", slots(none(), slot(5, 150, 0), none()), slot(5, 100, 0)},
		{"the second one at once", slots(slot(5, 149, 0), none(), none()), slot(5, 100, 1)},
		{"the one that ends first", slots(slot(5, 100, 0), slot(5, 100, 1), none()), slot(5, 140, 1)},
		{"the one that ends first, turned", slots(slot(5, 100, 1), slot(5, 100, 0), none()), slot(5, 140, 0)},
		{"between two", slots(slot(5, 100, 0), slot(5, 100, 1), slot(5, 180, 1)), slot(5, 160, 0)},
		{"just between two", slots(none(), slot(5, 110, 1), slot(5, 119, 0)), slot(5, 149, 0)},
		{"on the next day", slots(slot(5, 111, 0), slot(5, 140, 1), slot(5, 110, 1)), slot(6, 0, 0)},
	} {
		got, e := allot.Earliest(h, l, c.s, f)
		check(t, c.what, got, e, c.want)
	}
}

// P7.7: crews and machines make a funeral wait.
func TestEarliestWaits(t *testing.T) {
	h := change(wide(), func(h *api.Hall) { h.Crews, h.Machines = 2, 1 })
	l := []api.Funeral{{Name: "a", Until: 60, Service: 100, Dig: 50, Crews: 2}, {Name: "b", Until: 60, Service: 30, Dig: 40, Machine: true}}
	for _, c := range []struct {
		what string
		s    []api.Slot
		f    api.Funeral
		want api.Slot
	}{
		{"for crews", slots(slot(5, 50, 0), none()), api.Funeral{Service: 10, Dig: 20, Crews: 1}, slot(5, 170, 0)},
		{"without crews", slots(slot(5, 50, 0), none()), api.Funeral{Service: 10, Dig: 20}, slot(5, 20, 0)},
		{"for the end of a service", slots(slot(5, 50, 0), none()), api.Funeral{Service: 51, Dig: 20}, slot(5, 20, 1)},
		{"before the crews are used", slots(slot(5, 80, 0), none()), api.Funeral{Service: 10, Dig: 20, Crews: 1}, slot(5, 20, 0)},
		{"before the crews are used, just not", slots(slot(5, 79, 0), none()), api.Funeral{Service: 10, Dig: 20, Crews: 1}, slot(5, 199, 0)},
		{"for a machine", slots(none(), slot(5, 60, 0)), api.Funeral{Service: 10, Dig: 21, Machine: true}, slot(5, 81, 1)},
		{"before a machine is used", slots(none(), slot(5, 60, 0)), api.Funeral{Service: 10, Dig: 20, Machine: true}, slot(5, 20, 0)},
		{"no time of a machine", slots(none(), slot(5, 40, 0)), api.Funeral{Service: 10, Machine: true}, slot(5, 0, 0)},
		{"for both", slots(slot(5, 80, 0), slot(5, 210, 1)), api.Funeral{Service: 10, Dig: 31, Crews: 1, Machine: true}, slot(5, 241, 0)},
	} {
		f := c.f
		f.Name, f.From, f.Until = "f", 5, 5
		got, e := allot.Earliest(h, l, c.s, f)
		check(t, c.what, got, e, c.want)
	}
}

// P7.7: the ends of opening times and of the days of a funeral.
func TestEarliestEnds(t *testing.T) {
	h := hall()
	f := func(from, until, service, dig int) api.Funeral {
		return api.Funeral{Name: "f", From: from, Until: until, Service: service, Dig: dig}
	}
	for _, c := range []struct {
		what string
		f    api.Funeral
		want api.Slot
	}{
		{"the whole day", f(5, 5, 480, 0), slot(5, 480, 0)},
		{"the whole day with digging", f(5, 5, 1, 479), slot(5, 959, 0)},
		{"day 0", f(0, 0, 60, 60), slot(0, 540, 0)},
		{"a Tuesday", f(199940, 200000, 60, 60), slot(199940, 540, 0)},
		{"behind the weekend", f(3, 5, 60, 60), slot(5, 540, 0)},
	} {
		got, e := allot.Earliest(h, nil, nil, c.f)
		check(t, c.what, got, e, c.want)
	}
	for _, c := range []struct {
		what string
		f    api.Funeral
	}{
		{"a minute too long", f(5, 65, 481, 0)}, {"a minute too much to dig", f(5, 65, 1, 480)}, {"a weekend", f(3, 4, 1, 0)}, {"the longest one", f(0, 60, 600, 600)},
	} {
		got, e := allot.Earliest(h, nil, nil, c.f)
		checkError(t, c.what, []any{got}, e, api.ErrNone)
	}
	h.Closed = repeat(60, func(i int) int { return i + 5 })
	got, e := allot.Earliest(h, nil, nil, f(5, 64, 1, 0))
	checkError(t, "60 closed days", []any{got}, e, api.ErrNone)
	got, e = allot.Earliest(h, nil, nil, f(5, 65, 1, 0))
	check(t, "60 closed days and a Friday", got, e, slot(65, 480, 0))
	got, e = allot.Earliest(wide(), nil, nil, f(200000, 200000, 1, 0))
	check(t, "the last day", got, e, slot(200000, 0, 0))
}

// P7.7: the errors of Earliest in their order.
func TestEarliestErrors(t *testing.T) {
	h, l, f := hall(), funerals(2), funeral("f")
	two := slots(slot(5, 600, 0), slot(5, 780, 0))
	wrong := slots(slot(5, 600, 0), slot(5, 780, 1))
	weekend := change(f, func(f *api.Funeral) { f.From, f.Until = 3, 4 })
	for _, c := range []struct {
		what string
		h    api.Hall
		l    []api.Funeral
		s    []api.Slot
		f    api.Funeral
		want api.Errno
	}{
		{"a hall", api.Hall{}, l, wrong, api.Funeral{}, api.ErrRange},
		{"too many with it", h, funerals(30), nil, api.Funeral{}, api.ErrLarge},
		{"too many without it", h, funerals(31), nil, f, api.ErrLarge},
		{"the first one", h, []api.Funeral{{Name: "a"}, {}}, nil, api.Funeral{}, api.ErrRange},
		{"its name", h, l, nil, api.Funeral{}, api.ErrName},
		{"a name that is there", h, l, wrong, funeral("f1"), api.ErrExists},
		{"its service", h, l, wrong, change(f, func(f *api.Funeral) { f.Service = 0 }), api.ErrRange},
		{"its days", h, l, wrong, change(f, func(f *api.Funeral) { f.Until = 4 }), api.ErrOrder},
		{"its crews", h, l, wrong, change(f, func(f *api.Funeral) { f.Crews = 2 }), api.ErrStock},
		{"too few slots", h, l, two[:1], weekend, api.ErrShape},
		{"a slot for it", h, l, with(two, none()), weekend, api.ErrShape},
		{"a wrong slot", h, l, wrong, weekend, api.ErrRange},
		{"an early slot", h, l, slots(slot(1, 600, 0), none()), weekend, api.ErrEarly},
		{"a late slot", h, l, slots(slot(8, 600, 0), none()), weekend, api.ErrLate},
		{"a slot when it is closed", h, l, slots(slot(5, 0, 0), none()), weekend, api.ErrState},
		{"a busy chapel", h, l, slots(two[0], two[0]), weekend, api.ErrBusy},
		{"crews", h, l, slots(two[0], slot(5, 779, 0)), weekend, api.ErrStock},
		{"no slot", h, l, two, weekend, api.ErrNone},
		{"all taken", h, with(l, funeral("x"), funeral("y"), funeral("z")), slots(slot(5, 721, 0), slot(6, 721, 0), none(), slot(7, 600, 0), slot(7, 780, 0)), f, api.ErrNone},
	} {
		got, e := allot.Earliest(c.h, c.l, c.s, c.f)
		checkError(t, c.what, []any{got}, e, c.want)
	}
	last := slots(slot(5, 721, 0), slot(6, 720, 0))
	got, e := allot.Earliest(h, l, last, change(f, func(f *api.Funeral) { f.Until = 6 }))
	check(t, "just enough time", got, e, slot(6, 900, 0))
	got, e = allot.Earliest(wide(), funerals(29), repeat(29, func(int) api.Slot { return none() }), f)
	check(t, "the thirtieth", got, e, slot(5, 120, 0))
}

// P7.7: the fourth example, and each of the three quotients, rounded up.
func TestDaysNeeded(t *testing.T) {
	one := func(service, dig, crews int, machine bool) api.Funeral {
		return api.Funeral{Name: "f", Until: 60, Service: service, Dig: dig, Crews: crews, Machine: machine}
	}
	open := func(from, to int) api.Hall {
		h := api.Hall{Chapels: 1, Crews: 1, Machines: 1}
		h.Open[2], h.Open[4] = [2]int{from, to}, [2]int{to - 1, to}
		return h
	}
	for _, c := range []struct {
		what string
		h    api.Hall
		l    []api.Funeral
		want int
	}{
		{"the example", hall(), funerals(3), 2},
		{"nothing", hall(), nil, 0},
		{"nothing, always closed", change(hall(), func(h *api.Hall) { h.Open = [7][2]int{} }), nil, 0},
		{"one", hall(), funerals(1), 1},
		{"30", hall(), funerals(30), 12},
		{"a service", open(100, 200), []api.Funeral{one(100, 0, 0, false)}, 1},
		{"a longer service", open(100, 200), []api.Funeral{one(101, 0, 0, false)}, 2},
		{"a short service", open(100, 200), []api.Funeral{one(1, 0, 0, false)}, 1},
		{"services by chapels", change(open(100, 200), func(h *api.Hall) { h.Chapels = 3 }), []api.Funeral{one(600, 0, 0, false)}, 2},
		{"services by chapels, rounded", change(open(100, 200), func(h *api.Hall) { h.Chapels = 2 }), []api.Funeral{one(401, 0, 0, false)}, 3},
		{"pauses", change(open(100, 200), func(h *api.Hall) { h.Pause = 100 }), []api.Funeral{one(300, 0, 0, false)}, 2},
		{"pauses, rounded", change(open(100, 200), func(h *api.Hall) { h.Pause = 100 }), []api.Funeral{one(301, 0, 0, false)}, 3},
		{"crews", change(open(100, 200), func(h *api.Hall) { h.Crews = 2 }), []api.Funeral{one(100, 300, 1, false)}, 2},
		{"more crews", change(open(100, 200), func(h *api.Hall) { h.Crews = 2 }), []api.Funeral{one(100, 301, 1, false)}, 3},
		{"two crews each", change(open(100, 200), func(h *api.Hall) { h.Crews = 2 }), []api.Funeral{one(100, 300, 2, false)}, 4},
		{"digging", open(100, 200), []api.Funeral{one(50, 300, 0, true)}, 3},
		{"digging, rounded", open(100, 200), []api.Funeral{one(50, 301, 0, true)}, 4},
		{"digging by machines", change(open(100, 200), func(h *api.Hall) { h.Machines = 2 }), []api.Funeral{one(50, 301, 0, true)}, 2},
		{"digging without a machine", open(100, 200), []api.Funeral{one(50, 301, 0, false)}, 1},
		{"a hall without machines", change(open(100, 200), func(h *api.Hall) { h.Machines = 0 }), []api.Funeral{one(50, 301, 0, false)}, 1},
		{"a machine for no time", open(100, 200), []api.Funeral{one(50, 0, 0, true)}, 1},
		{"the longest opening", open(0, 1440), []api.Funeral{one(600, 600, 1, true)}, 1},
		{"closed days", change(open(100, 200), func(h *api.Hall) { h.Closed = days(60) }), []api.Funeral{one(1, 0, 0, false)}, 1},
	} {
		got, e := allot.DaysNeeded(c.h, c.l)
		check(t, c.what, got, e, c.want)
	}
	mixed := []api.Funeral{one(60, 100, 2, true), one(90, 50, 1, false), one(30, 7, 3, true)}
	for i := range mixed {
		mixed[i].Name += string(rune('a' + i))
	}
	h := change(open(100, 110), func(h *api.Hall) { h.Chapels, h.Crews, h.Machines, h.Pause = 2, 3, 2, 5 })
	got, e := allot.DaysNeeded(h, mixed) // 195 by 30, 571 by 30, 107 by 20
	check(t, "sums", got, e, 20)
	h.Crews = 10
	got, e = allot.DaysNeeded(h, mixed) // 571 by 100
	check(t, "sums of services", got, e, 7)
	h.Chapels, h.Machines = 6, 1
	got, e = allot.DaysNeeded(h, mixed)
	check(t, "sums of digging", got, e, 11)
	got, e = allot.DaysNeeded(change(hall(), func(h *api.Hall) { h.Open = [7][2]int{} }), funerals(1))
	checkError(t, "always closed", []any{got}, e, api.ErrNone)
}
