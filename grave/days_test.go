package grave_test

import (
	"reflect"
	"testing"

	"mortsafe/api"
	"mortsafe/grave"
)

// P3.4: the lots on days, with the chapter's example 2; the events of the day count.
func TestOn(t *testing.T) {
	for _, c := range []struct {
		l    []api.Event
		day  int
		want []api.Lot
	}{
		{nil, 0, nil},
		{two(), 0, nil},
		{two(), 99, nil},
		{two(), 100, []api.Lot{lies("x", "a", 0, 0, 100)}},
		{two(), 150, []api.Lot{lies("x", "a", 0, 0, 100)}},
		{two(), 199, []api.Lot{lies("x", "a", 0, 0, 100)}},
		{two(), 200, []api.Lot{lies("x", "a", 0, 0, 100), lies("y", "a", 1, 0, 200)}},
		{two(), api.MaxDay, []api.Lot{lies("x", "a", 0, 0, 100), lies("y", "a", 1, 0, 200)}},
		{many(), 299, []api.Lot{scattered("t", "s", 200), lies("w", "v", 1, 1, 200), lies("x", "a", 0, 0, 100), lies("y", "a", 1, 0, 200)}},
		{many(), 300, []api.Lot{scattered("t", "s", 200), kept("w", 300), lies("x", "a", 0, 0, 100), lies("y", "n", 0, 1, 300)}},
		{many(), 599, []api.Lot{scattered("b", "s", 450), scattered("t", "s", 200), lies("u", "a", 2, 1, 400), kept("w", 300), lies("x", "a", 0, 0, 100), kept("y", 500)}},
		{many(), 7399, []api.Lot{scattered("b", "s", 450), scattered("t", "s", 200), gathered("u", 4350), kept("w", 300), lies("x", "a", 0, 0, 100), scattered("y", "s", 600)}},
		{many(), 7400, []api.Lot{scattered("b", "s", 450), scattered("t", "s", 200), gathered("u", 4350), kept("w", 300), gathered("x", 7400), scattered("y", "s", 600)}},
	} {
		if lots, e := grave.On(yard(), c.l, c.day); !same(lots, c.want) || e != api.OK {
			t.Errorf("day %d: %v %d", c.day, lots, e)
		}
	}
	for _, day := range noDays {
		if lots, e := grave.On(yard(), two(), day); lots != nil || e != api.ErrRange {
			t.Errorf("day %d: %v %d", day, lots, e)
		}
	}
}

// P3.4: where a remain is on a day.
func TestWhere(t *testing.T) {
	for _, c := range []struct {
		remain string
		day    int
		lot    api.Lot
		want   api.Errno
	}{
		{"x", 99, api.Lot{}, api.ErrMissing},
		{"x", 100, lies("x", "a", 0, 0, 100), api.OK},
		{"x", 7399, lies("x", "a", 0, 0, 100), api.OK},
		{"x", 7400, gathered("x", 7400), api.OK},
		{"x", api.MaxDay, gathered("x", 7400), api.OK},
		{"y", 299, lies("y", "a", 1, 0, 200), api.OK},
		{"y", 300, lies("y", "n", 0, 1, 300), api.OK},
		{"y", 500, kept("y", 500), api.OK},
		{"y", 600, scattered("y", "s", 600), api.OK},
		{"u", 399, api.Lot{}, api.ErrMissing},
		{"u", 699, lies("u", "a", 2, 1, 400), api.OK},
		{"u", 700, lies("u", "a", 1, 1, 700), api.OK},
		{"q", 7400, api.Lot{}, api.ErrMissing},
		{"", 7400, api.Lot{}, api.ErrMissing},
		{"not a name", 7400, api.Lot{}, api.ErrMissing},
		{"x", -1, api.Lot{}, api.ErrRange},
		{"q", -1, api.Lot{}, api.ErrRange},
		{"q", api.MaxDay + 1, api.Lot{}, api.ErrRange},
	} {
		if lot, e := grave.Where(yard(), many(), c.remain, c.day); lot != c.lot || e != c.want {
			t.Errorf("%q on day %d: %v %d", c.remain, c.day, lot, e)
		}
	}
}

// P3.4: what is at a site on a day, by levels, and those of one level by remains.
func TestWithin(t *testing.T) {
	more := append(many(), bury(7400, "v", 1, "c", api.Coffin), bury(7400, "v", 0, "d", api.Urn), bury(7400, "s", 0, "a", api.Ashes))
	for _, c := range []struct {
		site string
		day  int
		lots []api.Lot
		want api.Errno
	}{
		{"a", 99, nil, api.OK},
		{"a", 150, []api.Lot{lies("x", "a", 0, 0, 100)}, api.OK},
		{"a", 250, []api.Lot{lies("x", "a", 0, 0, 100), lies("y", "a", 1, 0, 200)}, api.OK},
		{"a", 300, []api.Lot{lies("x", "a", 0, 0, 100)}, api.OK},
		{"a", 450, []api.Lot{lies("x", "a", 0, 0, 100), lies("u", "a", 2, 1, 400)}, api.OK},
		{"a", 7400, nil, api.OK},
		{"v", 250, []api.Lot{lies("w", "v", 1, 1, 200)}, api.OK},
		{"v", 300, nil, api.OK},
		{"v", 7400, []api.Lot{lies("d", "v", 0, 1, 7400), lies("c", "v", 1, 0, 7400)}, api.OK},
		{"n", 499, []api.Lot{lies("y", "n", 0, 1, 300)}, api.OK},
		{"n", 500, nil, api.OK},
		{"s", 200, []api.Lot{scattered("t", "s", 200)}, api.OK},
		{"s", 7400, []api.Lot{scattered("a", "s", 7400), scattered("b", "s", 450), scattered("t", "s", 200), scattered("y", "s", 600)}, api.OK},
		{"q", 7400, nil, api.ErrMissing},
		{"", 7400, nil, api.ErrMissing},
		{"q", -1, nil, api.ErrMissing},
		{"a", -1, nil, api.ErrRange},
		{"a", api.MaxDay + 1, nil, api.ErrRange},
	} {
		if lots, e := grave.Within(yard(), more, c.site, c.day); !same(lots, c.lots) || e != c.want {
			t.Errorf("%q on day %d: %v %d", c.site, c.day, lots, e)
		}
	}
}

// P3.5: all lots that a remain had; also one that ends on the day on which it began.
func TestStays(t *testing.T) {
	quick := []api.Event{bury(5, "v", 0, "x", 0), exhume(5, "x"), rebury(5, "n", 1, "x", 1), gather(5, "x")}
	for _, c := range []struct {
		l      []api.Event
		remain string
		stays  []api.Stay
		want   api.Errno
	}{
		{two(), "x", []api.Stay{stay(lies("x", "a", 0, 0, 100), -1)}, api.OK},
		{many(), "x", []api.Stay{stay(lies("x", "a", 0, 0, 100), 7400), stay(gathered("x", 7400), -1)}, api.OK},
		{many(), "y", []api.Stay{
			stay(lies("y", "a", 1, 0, 200), 300), stay(kept("y", 300), 300), stay(lies("y", "n", 0, 1, 300), 500),
			stay(kept("y", 500), 600), stay(scattered("y", "s", 600), -1),
		}, api.OK},
		{many(), "w", []api.Stay{stay(lies("w", "v", 1, 1, 200), 300), stay(kept("w", 300), -1)}, api.OK},
		{many(), "u", []api.Stay{stay(lies("u", "a", 2, 1, 400), 700), stay(lies("u", "a", 1, 1, 700), 4350), stay(gathered("u", 4350), -1)}, api.OK},
		{many(), "t", []api.Stay{stay(scattered("t", "s", 200), -1)}, api.OK},
		{quick, "x", []api.Stay{
			stay(lies("x", "v", 0, 0, 5), 5), stay(kept("x", 5), 5), stay(lies("x", "n", 1, 1, 5), 5), stay(gathered("x", 5), -1),
		}, api.OK},
		{[]api.Event{bury(0, "v", 0, "x", 0), exhume(0, "x")}, "x", []api.Stay{stay(lies("x", "v", 0, 0, 0), 0), stay(kept("x", 0), -1)}, api.OK},
		{many(), "q", nil, api.ErrMissing},
		{many(), "", nil, api.ErrMissing},
		{nil, "x", nil, api.ErrMissing},
	} {
		if stays, e := grave.Stays(yard(), c.l, c.remain); !same(stays, c.stays) || e != c.want {
			t.Errorf("%q: %v %d", c.remain, stays, e)
		}
	}
}

// P3.5: the stays at each level, in the order of the events that brought them.
func TestLevels(t *testing.T) {
	back := append(many(), bury(7400, "a", 1, "d", api.Urn), byOrder(lower(7400, 0, "d")), bury(7400, "a", 1, "c", api.Urn))
	for _, c := range []struct {
		l      []api.Event
		site   string
		levels [][]api.Stay
		want   api.Errno
	}{
		{nil, "a", make([][]api.Stay, 3), api.OK},
		{nil, "s", make([][]api.Stay, 1), api.OK},
		{two(), "a", [][]api.Stay{{stay(lies("x", "a", 0, 0, 100), -1)}, {stay(lies("y", "a", 1, 0, 200), -1)}, nil}, api.OK},
		{back, "a", [][]api.Stay{
			{stay(lies("x", "a", 0, 0, 100), 7400), stay(lies("d", "a", 0, 1, 7400), -1)},
			{stay(lies("y", "a", 1, 0, 200), 300), stay(lies("u", "a", 1, 1, 700), 4350), stay(lies("d", "a", 1, 1, 7400), 7400), stay(lies("c", "a", 1, 1, 7400), -1)},
			{stay(lies("u", "a", 2, 1, 400), 700)},
		}, api.OK},
		{many(), "v", [][]api.Stay{nil, {stay(lies("w", "v", 1, 1, 200), 300)}}, api.OK},
		{many(), "s", [][]api.Stay{{stay(scattered("t", "s", 200), -1), stay(scattered("b", "s", 450), -1), stay(scattered("y", "s", 600), -1)}}, api.OK},
		{many(), "q", nil, api.ErrMissing},
		{many(), "", nil, api.ErrMissing},
	} {
		levels, e := grave.Levels(yard(), c.l, c.site)
		if len(levels) != len(c.levels) || e != c.want {
			t.Fatalf("%q: %v %d", c.site, levels, e)
		}
		for i := range levels {
			if !same(levels[i], c.levels[i]) {
				t.Errorf("%q, level %d: %v", c.site, i, levels[i])
			}
		}
	}
	if levels, _ := grave.Levels(yard(), nil, "q"); !reflect.ValueOf(levels).IsZero() {
		t.Error(levels)
	}
}
