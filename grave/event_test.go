package grave_test

import (
	"fmt"
	"math"
	"reflect"
	"strings"
	"testing"

	"mortsafe/api"
	"mortsafe/grave"
)

// P3.3: events by themselves, with each error and the ends of the ranges.
func TestCheckEvent(t *testing.T) {
	for _, c := range []struct {
		e    api.Event
		want api.Errno
	}{
		{bury(0, "a", 0, "x", api.Coffin), api.OK},
		{bury(api.MaxDay, "a", 11, "x", api.Ashes), api.OK},
		{rebury(0, "q", 11, "A-9", api.Urn), api.OK},
		{exhume(0, "x"), api.OK},
		{byOrder(exhume(5, "order")), api.OK},
		{lower(5, 11, "x"), api.OK},
		{byOrder(lower(5, 0, "x")), api.OK},
		{gather(5, strings.Repeat("x", 12)), api.OK},
		{bury(-1, "a", 0, "x", 0), api.ErrRange},
		{bury(api.MaxDay+1, "a", 0, "x", 0), api.ErrRange},
		{bury(math.MinInt, "a", 0, "x", 0), api.ErrRange},
		{gather(math.MaxInt, "x"), api.ErrRange},
		{api.Event{Kind: -1, Remain: "x"}, api.ErrKind},
		{api.Event{Kind: 5, Remain: "x"}, api.ErrKind},
		{api.Event{Kind: math.MaxInt, Remain: "x"}, api.ErrKind},
		{api.Event{Kind: math.MinInt, Remain: "x"}, api.ErrKind},
		{bury(5, "a", 0, "", 0), api.ErrName},
		{rebury(5, "a", 0, "9", 0), api.ErrName},
		{exhume(5, "x y"), api.ErrName},
		{lower(5, 0, strings.Repeat("x", 13)), api.ErrName},
		{gather(5, "\n"), api.ErrName},
		{bury(5, "", 0, "x", 0), api.ErrName},
		{rebury(5, "", 0, "x", 0), api.ErrName},
		{rebury(5, "a b", 0, "x", 0), api.ErrName},
		{bury(5, "a", -1, "x", 0), api.ErrRange},
		{bury(5, "a", 12, "x", 0), api.ErrRange},
		{rebury(5, "a", math.MinInt, "x", 0), api.ErrRange},
		{lower(5, 12, "x"), api.ErrRange},
		{lower(5, -1, "x"), api.ErrRange},
		{lower(5, math.MaxInt, "x"), api.ErrRange},
		{bury(5, "a", 0, "x", -1), api.ErrRange},
		{bury(5, "a", 0, "x", 3), api.ErrRange},
		{rebury(5, "a", 0, "x", 3), api.ErrRange},
		{byOrder(bury(5, "a", 0, "x", 0)), api.ErrForm},
		{byOrder(rebury(5, "a", 0, "x", 0)), api.ErrForm},
		{byOrder(gather(5, "x")), api.ErrForm},
	} {
		if e := grave.CheckEvent(c.e); e != c.want {
			t.Errorf("%v: %d, want %d", c.e, e, c.want)
		}
	}
}

// P3.3: a field without a meaning has to be empty, whatever stands in it.
func TestCheckEventForm(t *testing.T) {
	fill := func(field string, e api.Event) api.Event {
		switch field {
		case "site":
			e.Site = "9"
		case "level":
			e.Level = math.MinInt
		case "container":
			e.Container = math.MaxInt
		case "order":
			e.Order = true
		}
		return e
	}
	for _, c := range []struct {
		e      api.Event
		fields []string
	}{
		{bury(5, "a", 0, "x", 0), []string{"order"}},
		{rebury(5, "a", 0, "x", 0), []string{"order"}},
		{exhume(5, "x"), []string{"site", "level", "container"}},
		{lower(5, 0, "x"), []string{"site", "container"}},
		{gather(5, "x"), []string{"site", "level", "container", "order"}},
	} {
		for _, field := range c.fields {
			if e := grave.CheckEvent(fill(field, c.e)); e != api.ErrForm {
				t.Errorf("%v with a %s: %d", c.e, field, e)
			}
		}
	}
}

// P3.3: of several errors the one that is listed first is told.
func TestCheckEventOrder(t *testing.T) {
	e := api.Event{Day: -1, Kind: 9, Site: "", Level: 12, Remain: "", Container: 3, Order: true}
	for _, step := range []struct {
		want  api.Errno
		right func()
	}{
		{api.ErrRange, func() { e.Day = 0 }},
		{api.ErrKind, func() { e.Kind = api.Rebury }},
		{api.ErrName, func() { e.Remain = "x" }},
		{api.ErrName, func() { e.Site = "a" }},
		{api.ErrRange, func() { e.Level = 0 }},
		{api.ErrRange, func() { e.Container = 0 }},
		{api.ErrForm, func() { e.Order = false }},
		{api.OK, func() {}},
	} {
		if wrong := grave.CheckEvent(e); wrong != step.want {
			t.Errorf("%v: %d, want %d", e, wrong, step.want)
		}
		step.right()
	}
}

// eventCase is an event behind others, and its error.
type eventCase struct {
	e    api.Event
	want api.Errno
}

// checkAdd tells Add's results of events behind others, and Replay's of all of them.
func checkAdd(t *testing.T, y api.Yard, l []api.Event, cases []eventCase) {
	t.Helper()
	before, n, e := grave.Replay(y, l)
	if n != len(l) || e != api.OK {
		t.Fatal("the events ahead:", n, e)
	}
	for _, c := range cases {
		more, e := grave.Add(y, l, c.e)
		all := behind(l, c.e)
		if e != c.want || e == api.OK && !same(more, all) || e != api.OK && more != nil {
			t.Errorf("add %v: %v %d, want %d", c.e, more, e, c.want)
		}
		lots, n, e := grave.Replay(y, all)
		if e != c.want || e == api.OK && n != len(all) || e != api.OK && (n != len(l) || !same(lots, before)) {
			t.Errorf("replay %v: %v %d %d, want %d", c.e, lots, n, e, c.want)
		}
	}
}

// P3.3: the errors of a burial, in their order.
func TestBury(t *testing.T) {
	y := yard()
	y.Sites = append(y.Sites, earth("b", 0, 200, 0, 4))
	l := append(two(), bury(200, "b", 2, "z", api.Urn), bury(200, "s", 0, "t", api.Ashes), bury(200, "v", 1, "w", api.Coffin))
	checkAdd(t, y, l, []eventCase{
		{bury(199, "v", 0, "q", api.Urn), api.ErrOrder},
		{bury(199, "q", 0, "x", api.Urn), api.ErrOrder},
		{bury(199, "q", 0, "", api.Urn), api.ErrName},
		{bury(200, "v", 0, "q", api.Urn), api.OK},
		{bury(api.MaxDay, "v", 0, "q", api.Urn), api.OK},
		{bury(200, "v", 0, "x", api.Urn), api.ErrExists},
		{bury(200, "q", 0, "x", api.Urn), api.ErrExists},
		{bury(200, "v", 0, "t", api.Urn), api.ErrExists},
		{bury(200, "s", 0, "t", api.Ashes), api.ErrExists},
		{bury(200, "q", 11, "q", api.Urn), api.ErrMissing},
		{bury(200, "A", 0, "q", api.Urn), api.ErrMissing},
		{bury(200, "a", 3, "q", api.Ashes), api.ErrRange},
		{bury(200, "v", 2, "q", api.Ashes), api.ErrRange},
		{bury(200, "s", 1, "q", api.Urn), api.ErrRange},
		{bury(200, "a", 0, "q", api.Ashes), api.ErrKind},
		{bury(200, "a", 2, "q", api.Coffin), api.ErrKind},
		{bury(200, "v", 1, "q", api.Ashes), api.ErrKind},
		{bury(200, "n", 0, "q", api.Coffin), api.ErrKind},
		{bury(200, "n", 0, "q", api.Ashes), api.ErrKind},
		{bury(200, "s", 0, "q", api.Urn), api.ErrKind},
		{bury(200, "a", 0, "q", api.Urn), api.ErrFull},
		{bury(200, "a", 1, "q", api.Urn), api.ErrFull},
		{bury(200, "v", 1, "q", api.Urn), api.ErrFull},
		{bury(200, "b", 2, "q", api.Urn), api.ErrFull},
		{bury(200, "b", 0, "q", api.Urn), api.ErrBusy},
		{bury(200, "b", 1, "q", api.Coffin), api.ErrBusy},
		{bury(200, "b", 3, "q", api.Coffin), api.OK},
		{bury(200, "a", 2, "q", api.Urn), api.OK},
		{bury(200, "v", 0, "q", api.Coffin), api.OK},
		{bury(200, "n", 0, "q", api.Urn), api.OK},
		{bury(200, "n", 1, "q", api.Urn), api.OK},
		{bury(200, "s", 0, "q", api.Ashes), api.OK},
	})
	checkAdd(t, y, nil, []eventCase{{bury(0, "a", 1, "x", api.Coffin), api.OK}, {exhume(0, "x"), api.ErrMissing}})
}

// P3.3: the errors of a reburial, in their order.
func TestRebury(t *testing.T) {
	l := append(many(), bury(7400, "v", 0, "w2", api.Coffin))
	checkAdd(t, yard(), l, []eventCase{
		{rebury(7399, "v", 1, "w", api.Urn), api.ErrOrder},
		{rebury(7400, "q", 1, "new", api.Urn), api.ErrMissing},
		{rebury(7400, "q", 1, "w2", api.Urn), api.ErrState},
		{rebury(7400, "v", 1, "w2", api.Urn), api.ErrState},
		{rebury(7400, "v", 1, "u", api.Urn), api.ErrState},
		{rebury(7400, "s", 0, "y", api.Ashes), api.ErrState},
		{rebury(7400, "q", 1, "w", api.Urn), api.ErrMissing},
		{rebury(7400, "v", 2, "w", api.Ashes), api.ErrRange},
		{rebury(7400, "v", 0, "w", api.Ashes), api.ErrKind},
		{rebury(7400, "v", 0, "w", api.Urn), api.ErrFull},
		{rebury(7400, "v", 1, "w", api.Coffin), api.OK},
		{rebury(7400, "s", 0, "w", api.Ashes), api.OK},
		{rebury(7400, "a", 0, "w", api.Coffin), api.OK},
	})
	checkAdd(t, yard(), append(two(), bury(200, "v", 0, "w", 0), exhume(200, "w"), byOrder(exhume(300, "y")), bury(300, "a", 2, "u", api.Urn)), []eventCase{
		{rebury(300, "a", 0, "y", api.Coffin), api.ErrFull},
		{rebury(300, "a", 1, "y", api.Coffin), api.ErrBusy},
		{rebury(300, "a", 2, "y", api.Coffin), api.ErrKind},
		{rebury(300, "a", 2, "y", api.Urn), api.ErrFull},
		{rebury(300, "v", 0, "y", api.Coffin), api.OK},
		{bury(300, "v", 0, "w", api.Urn), api.ErrExists},
	})
}

// P3.3: the errors of an exhumation and a gathering, in their order, with the
// chapter's examples 3 and 4.
func TestExhumeAndGather(t *testing.T) {
	l := append(two(), bury(200, "v", 0, "w", api.Coffin), bury(200, "v", 1, "w2", api.Coffin), bury(200, "s", 0, "t", api.Ashes))
	checkAdd(t, yard(), l, []eventCase{
		{exhume(199, "x"), api.ErrOrder},
		{exhume(300, "q"), api.ErrMissing},
		{exhume(300, "t"), api.ErrState},
		{exhume(300, "x"), api.ErrBusy},
		{byOrder(exhume(300, "x")), api.ErrBusy},
		{exhume(10000, "x"), api.ErrBusy},
		{exhume(300, "y"), api.ErrRest},
		{exhume(7499, "y"), api.ErrRest},
		{exhume(7500, "y"), api.OK},
		{byOrder(exhume(300, "y")), api.OK},
		{exhume(200, "w"), api.OK},
		{exhume(200, "w2"), api.OK},
		{gather(199, "x"), api.ErrOrder},
		{gather(300, "q"), api.ErrMissing},
		{gather(300, "t"), api.ErrState},
		{gather(300, "x"), api.ErrBusy},
		{gather(10000, "x"), api.ErrBusy},
		{gather(7499, "y"), api.ErrRest},
		{gather(7500, "y"), api.OK},
		{gather(200, "w"), api.OK},
		{byOrder(gather(7500, "y")), api.ErrForm},
	})
	l = append(l, gather(7500, "y"), exhume(7500, "w"))
	checkAdd(t, yard(), l, []eventCase{
		{gather(7500, "y"), api.ErrState},
		{exhume(7500, "y"), api.ErrState},
		{rebury(7500, "v", 0, "y", api.Urn), api.ErrState},
		{bury(7500, "v", 0, "y", api.Urn), api.ErrExists},
		{gather(7500, "w"), api.ErrState},
		{exhume(7500, "w"), api.ErrState},
		{gather(7500, "x"), api.OK},
		{exhume(7500, "x"), api.OK},
	})
}

// P3.3: the errors of a lowering, in their order, with the chapter's example 5.
func TestLower(t *testing.T) {
	y := yard()
	y.Sites = append(y.Sites, earth("b", 1, 200, 0, 6))
	l := []api.Event{
		bury(10, "a", 1, "z", api.Coffin),
		bury(10, "b", 1, "x1", api.Urn), bury(10, "b", 3, "x3", api.Urn), bury(10, "b", 4, "x4", api.Coffin),
		bury(10, "v", 1, "w", api.Coffin), bury(10, "s", 0, "t", api.Ashes), bury(10, "v", 0, "k", api.Urn), exhume(10, "k"),
	}
	checkAdd(t, y, l, []eventCase{
		{lower(9, 0, "z"), api.ErrOrder},
		{lower(7310, 0, "q"), api.ErrMissing},
		{lower(7310, 0, "t"), api.ErrState},
		{lower(7310, 0, "k"), api.ErrState},
		{lower(7310, 0, "w"), api.ErrKind},
		{lower(10, 1, "w"), api.ErrKind},
		{lower(7310, 1, "z"), api.ErrRange},
		{lower(10, 2, "z"), api.ErrRange},
		{lower(7310, 11, "z"), api.ErrRange},
		{lower(7309, 0, "z"), api.ErrRest},
		{lower(7310, 0, "z"), api.OK},
		{byOrder(lower(10, 0, "z")), api.OK},
		{lower(10, 1, "x3"), api.ErrFull},
		{lower(10, 0, "x3"), api.ErrFull},
		{lower(10, 2, "x3"), api.ErrBusy},
		{byOrder(lower(8000, 2, "x3")), api.ErrBusy},
		{lower(10, 0, "x1"), api.ErrBusy},
		{lower(10, 3, "x4"), api.ErrFull},
		{lower(10, 2, "x4"), api.ErrFull},
		{lower(10, 4, "x4"), api.ErrRange},
		{lower(10, 5, "x4"), api.ErrRange},
	})
	l = append(l, exhume(7310, "x3"))
	checkAdd(t, y, l[:len(l)-1], []eventCase{{l[len(l)-1], api.ErrBusy}})
	l[len(l)-1] = byOrder(exhume(7309, "x4"))
	checkAdd(t, y, l, []eventCase{
		{lower(7309, 2, "x3"), api.OK},
		{lower(7309, 1, "x3"), api.ErrFull},
		{rebury(7309, "b", 5, "x4", api.Coffin), api.OK},
	})
	l = append(l, rebury(7309, "b", 5, "x4", api.Coffin), byOrder(lower(7309, 4, "x4")), byOrder(lower(7309, 0, "z")))
	checkAdd(t, y, l, []eventCase{
		{lower(7310, 0, "z"), api.ErrRange},
		{exhume(7310, "z"), api.ErrRest},
		{exhume(14609, "z"), api.OK},
		{exhume(14608, "z"), api.ErrRest},
		{exhume(14608, "x4"), api.ErrRest},
		{exhume(14609, "x4"), api.OK},
		{lower(14609, 3, "x4"), api.ErrFull},
	})
}

// P3.3: what the accepted events lead to.
func TestReplay(t *testing.T) {
	y := yard()
	for _, c := range []struct {
		what string
		l    []api.Event
		want []api.Lot
	}{
		{"nothing", nil, nil},
		{"example 2", two(), []api.Lot{lies("x", "a", 0, 0, 100), lies("y", "a", 1, 0, 200)}},
		{"all kinds", many(), []api.Lot{
			scattered("b", "s", 450), scattered("t", "s", 200), gathered("u", 4350), kept("w", 300),
			gathered("x", 7400), scattered("y", "s", 600),
		}},
		{"lowered", []api.Event{bury(10, "a", 1, "z", 1), lower(3660, 0, "z")}, []api.Lot{lies("z", "a", 0, 1, 3660)}},
		{"another container", []api.Event{bury(10, "v", 1, "z", 0), exhume(20, "z"), rebury(30, "n", 0, "z", 1)}, []api.Lot{lies("z", "n", 0, 1, 30)}},
		{"names by bytes", []api.Event{bury(1, "s", 0, "b", 2), bury(1, "s", 0, "a-", 2), bury(1, "s", 0, "a", 2), bury(1, "s", 0, "B", 2), bury(1, "s", 0, "a0", 2)},
			[]api.Lot{scattered("B", "s", 1), scattered("a", "s", 1), scattered("a-", "s", 1), scattered("a0", "s", 1), scattered("b", "s", 1)}},
	} {
		if lots, n, e := grave.Replay(y, c.l); !same(lots, c.want) || n != len(c.l) || e != api.OK {
			t.Errorf("%s: %v %d %d", c.what, lots, n, e)
		}
	}
}

// P3.3: Replay tells the beginning, up to the first event that is not accepted.
func TestReplayBeginning(t *testing.T) {
	l := append(two(), exhume(300, "x"), exhume(7500, "y"), api.Event{Day: -1})
	want := []api.Lot{lies("x", "a", 0, 0, 100), lies("y", "a", 1, 0, 200)}
	if lots, n, e := grave.Replay(yard(), l); !same(lots, want) || n != 2 || e != api.ErrBusy {
		t.Error(lots, n, e)
	}
	if lots, n, e := grave.Replay(yard(), []api.Event{gather(5, "x"), bury(5, "v", 0, "x", 0)}); len(lots) != 0 || n != 0 || e != api.ErrMissing {
		t.Error(lots, n, e)
	}
	if lots, n, e := grave.Replay(wrongYard(), l); len(lots) != 0 || n != 0 || e != api.ErrName {
		t.Error(lots, n, e)
	}
}

func ash(i int) api.Event { return bury(i, "s", 0, fmt.Sprint("r", i), api.Ashes) }

// P3.3: 300 events are the most.
func TestMostEvents(t *testing.T) {
	y, l := yard(), repeat(301, ash)
	lots, n, e := grave.Replay(y, l[:300])
	if len(lots) != 300 || n != 300 || e != api.OK {
		t.Error(len(lots), n, e)
	}
	if lots, n, e := grave.Replay(y, l); len(lots) != 0 || n != 0 || e != api.ErrLarge {
		t.Error(len(lots), n, e)
	}
	if lots, n, e := grave.Replay(wrongYard(), l); len(lots) != 0 || n != 0 || e != api.ErrName {
		t.Error(len(lots), n, e)
	}
	if more, e := grave.Add(y, l[:299], l[299]); !same(more, l[:300]) || e != api.OK {
		t.Error(len(more), e)
	}
	wrong := behind(l[:299], api.Event{})
	for _, c := range []struct {
		y    api.Yard
		l    []api.Event
		e    api.Event
		want api.Errno
	}{
		{y, l[:300], l[300], api.ErrLarge},
		{y, l[:300], api.Event{Day: -1}, api.ErrLarge},
		{y, l, l[300], api.ErrLarge},
		{y, make([]api.Event, 301), api.Event{}, api.ErrLarge},
		{y, wrong, l[300], api.ErrName},
		{y, wrong, api.Event{Day: -1}, api.ErrName},
		{y, l[:299], api.Event{Day: -1}, api.ErrRange},
		{wrongYard(), l, api.Event{Day: -1}, api.ErrName},
		{wrongYard(), nil, api.Event{Day: -1}, api.ErrName},
	} {
		if more, e := grave.Add(c.y, c.l, c.e); more != nil || e != c.want {
			t.Errorf("%d events, then %v: %v %d, want %d", len(c.l), c.e, more, e, c.want)
		}
	}
}

// P1, the errors of the yard and of the events are told before all others, by every
// function that has both.
func TestFirstErrors(t *testing.T) {
	for _, c := range []struct {
		y    api.Yard
		l    []api.Event
		want api.Errno
	}{
		{wrongYard(), make([]api.Event, 301), api.ErrName},
		{wrongYard(), []api.Event{{Day: -1}}, api.ErrName},
		{yard(), make([]api.Event, 301), api.ErrLarge},
		{yard(), []api.Event{{Day: -1}}, api.ErrRange},
		{yard(), append(two(), exhume(300, "x")), api.ErrBusy},
		{yard(), append(two(), exhume(300, "x"), api.Event{}), api.ErrBusy},
	} {
		for i, got := range wrongCalls(c.y, c.l) {
			for j, result := range got[:len(got)-1] {
				if v := reflect.ValueOf(result); !v.IsZero() {
					t.Errorf("%v, function %d: result %d is %v", c.want, i, j, result)
				}
			}
			if got[len(got)-1] != c.want {
				t.Errorf("function %d: %v, want %d", i, got, c.want)
			}
		}
	}
}

// wrongCalls calls all functions that have a yard and events with further arguments
// that are wrong as well, and returns their results.
func wrongCalls(y api.Yard, l []api.Event) [][]any {
	of := func(results ...any) []any { return results }
	return [][]any{
		of(grave.Add(y, l, api.Event{Day: -1, Kind: 9})),
		of(grave.On(y, l, -1)),
		of(grave.Where(y, l, "", -1)),
		of(grave.Within(y, l, "q", -1)),
		of(grave.Stays(y, l, "")),
		of(grave.Levels(y, l, "q")),
		of(grave.Free(y, l, -1, -1)),
		of(grave.FirstFree(y, l, api.Berth{Site: "q", Level: -1}, -1, -1)),
		of(grave.Left(y, l, "q", -1)),
		of(grave.RestOver(y, l, "")),
		of(grave.Reusable(y, l, -1)),
		of(grave.GatherAll(y, l, "q", -1)),
		of(grave.Print(y, l)),
	}
}
