package grave_test

import (
	"math"
	"testing"

	"mortsafe/api"
	"mortsafe/grave"
)

func berths(l ...any) []api.Berth {
	var berths []api.Berth
	for i := 0; i < len(l); i += 2 {
		berths = append(berths, api.Berth{Site: l[i].(string), Level: l[i+1].(int)})
	}
	return berths
}

// P3.6: the levels at which something can be put, with the chapter's example 2.
func TestFree(t *testing.T) {
	for _, c := range []struct {
		l              []api.Event
		container, day int
		want           []api.Berth
	}{
		{nil, api.Coffin, 0, berths("a", 0, "a", 1, "v", 0, "v", 1)},
		{nil, api.Urn, api.MaxDay, berths("a", 0, "a", 1, "a", 2, "v", 0, "v", 1, "n", 0, "n", 1)},
		{nil, api.Ashes, 0, berths("s", 0)},
		{two(), api.Coffin, 250, berths("v", 0, "v", 1)},
		{two(), api.Urn, 250, berths("a", 2, "v", 0, "v", 1, "n", 0, "n", 1)},
		{two(), api.Coffin, 99, berths("a", 0, "a", 1, "v", 0, "v", 1)},
		{two(), api.Coffin, 100, berths("a", 1, "v", 0, "v", 1)},
		{two(), api.Coffin, 199, berths("a", 1, "v", 0, "v", 1)},
		{two(), api.Coffin, 200, berths("v", 0, "v", 1)},
		{many(), api.Ashes, 450, berths("s", 0)},
		{many(), api.Urn, 200, berths("a", 2, "v", 0, "n", 0, "n", 1)},
		{many(), api.Urn, 300, berths("a", 1, "a", 2, "v", 0, "v", 1, "n", 1)},
		{many(), api.Urn, 400, berths("v", 0, "v", 1, "n", 1)},
		{many(), api.Coffin, 699, berths("v", 0, "v", 1)},
		{many(), api.Urn, 700, berths("a", 2, "v", 0, "v", 1, "n", 0, "n", 1)},
		{many(), api.Coffin, 4350, berths("a", 1, "v", 0, "v", 1)},
		{many(), api.Coffin, 7399, berths("a", 1, "v", 0, "v", 1)},
		{many(), api.Coffin, 7400, berths("a", 0, "a", 1, "v", 0, "v", 1)},
		{[]api.Event{bury(5, "a", 1, "x", api.Coffin), bury(5, "v", 1, "y", api.Coffin)}, api.Urn, 5, berths("a", 2, "v", 0, "n", 0, "n", 1)},
	} {
		if free, e := grave.Free(yard(), c.l, c.container, c.day); !same(free, c.want) || e != api.OK {
			t.Errorf("container %d on day %d: %v %d", c.container, c.day, free, e)
		}
	}
}

// P3.6: the sites are in the order of the yard, not of their names.
func TestFreeOrder(t *testing.T) {
	y := api.Yard{Sites: []api.Site{earth("z", 0, 0, 0, 1), earth("b", 0, 0, 0, 2), earth("y", 0, 0, 0, 1)}}
	if free, e := grave.Free(y, nil, api.Coffin, 0); !same(free, berths("z", 0, "b", 0, "b", 1, "y", 0)) || e != api.OK {
		t.Error(free, e)
	}
}

// P3.6: the errors of Free.
func TestFreeErrors(t *testing.T) {
	for _, container := range noContainers {
		if free, e := grave.Free(yard(), two(), container, 5); free != nil || e != api.ErrRange {
			t.Error(container, free, e)
		}
	}
	for _, day := range noDays {
		if free, e := grave.Free(yard(), two(), api.Urn, day); free != nil || e != api.ErrRange {
			t.Error(day, free, e)
		}
	}
}

// P3.6: the least free level of a site, from a level on.
func TestFirstFree(t *testing.T) {
	for _, c := range []struct {
		l              []api.Event
		site           string
		from           int
		container, day int
		level          int
		want           api.Errno
	}{
		{nil, "a", 0, api.Coffin, 0, 0, api.OK},
		{nil, "a", 1, api.Coffin, 0, 1, api.OK},
		{nil, "a", 2, api.Coffin, 0, 0, api.ErrFull},
		{nil, "a", 2, api.Urn, 0, 2, api.OK},
		{nil, "a", 0, api.Ashes, 0, 0, api.ErrFull},
		{nil, "s", 0, api.Ashes, 0, 0, api.OK},
		{two(), "a", 0, api.Urn, 99, 0, api.OK},
		{two(), "a", 0, api.Urn, 100, 1, api.OK},
		{two(), "a", 0, api.Urn, 199, 1, api.OK},
		{two(), "a", 0, api.Urn, 200, 2, api.OK},
		{two(), "a", 0, api.Coffin, 200, 0, api.ErrFull},
		{two(), "v", 1, api.Coffin, 250, 1, api.OK},
		{many(), "a", 0, api.Urn, 699, 0, api.ErrFull},
		{many(), "a", 1, api.Urn, 699, 0, api.ErrFull},
		{many(), "v", 0, api.Urn, 250, 0, api.OK},
		{many(), "v", 1, api.Urn, 250, 0, api.ErrFull},
		{many(), "n", 0, api.Urn, 300, 1, api.OK},
		{many(), "q", 9, -1, -1, 0, api.ErrMissing},
		{many(), "", 0, -1, -1, 0, api.ErrMissing},
		{many(), "a", 3, -1, -1, 0, api.ErrRange},
		{many(), "a", -1, api.Urn, 0, 0, api.ErrRange},
		{many(), "a", 3, api.Urn, 0, 0, api.ErrRange},
		{many(), "s", 1, api.Ashes, 0, 0, api.ErrRange},
		{many(), "a", math.MinInt, api.Urn, 0, 0, api.ErrRange},
		{many(), "a", 0, -1, 0, 0, api.ErrRange},
		{many(), "a", 0, 3, 0, 0, api.ErrRange},
		{many(), "a", 0, api.Urn, -1, 0, api.ErrRange},
		{many(), "a", 0, api.Urn, api.MaxDay + 1, 0, api.ErrRange},
	} {
		at := api.Berth{Site: c.site, Level: c.from}
		if level, e := grave.FirstFree(yard(), c.l, at, c.container, c.day); level != c.level || e != c.want {
			t.Errorf("%v, container %d on day %d: %d %d", at, c.container, c.day, level, e)
		}
	}
}

// P3.6: how many burials can still be made, with the chapter's example 6.
func TestLeft(t *testing.T) {
	y := yard()
	y.Sites = append(y.Sites, earth("b", 0, 200, 20, 5), earth("c", 0, 149, 0, 3))
	gap := append(two(), bury(200, "b", 1, "x1", api.Urn), bury(200, "b", 3, "x3", api.Urn), bury(200, "v", 1, "w", api.Urn))
	for _, c := range []struct {
		l         []api.Event
		site      string
		container int
		left      int
		want      api.Errno
	}{
		{nil, "a", api.Coffin, 2, api.OK},
		{nil, "a", api.Urn, 3, api.OK},
		{nil, "a", api.Ashes, 0, api.OK},
		{two(), "a", api.Coffin, 0, api.OK},
		{two(), "a", api.Urn, 1, api.OK},
		{two()[:1], "a", api.Coffin, 1, api.OK},
		{two()[:1], "a", api.Urn, 2, api.OK},
		{gap, "b", api.Urn, 1, api.OK},
		{gap, "b", api.Coffin, 0, api.OK},
		{nil, "b", api.Coffin, 3, api.OK},
		{nil, "c", api.Coffin, 0, api.OK},
		{nil, "c", api.Urn, 3, api.OK},
		{nil, "v", api.Coffin, 2, api.OK},
		{gap, "v", api.Coffin, 1, api.OK},
		{gap, "v", api.Ashes, 0, api.OK},
		{nil, "n", api.Urn, 2, api.OK},
		{nil, "n", api.Coffin, 0, api.OK},
		{many(), "v", api.Coffin, 2, api.OK},
		{many(), "a", api.Urn, 3, api.OK},
		{nil, "s", api.Ashes, 0, api.ErrKind},
		{nil, "s", api.Urn, 0, api.ErrKind},
		{nil, "s", 3, 0, api.ErrRange},
		{nil, "a", -1, 0, api.ErrRange},
		{nil, "v", 3, 0, api.ErrRange},
		{nil, "q", 3, 0, api.ErrMissing},
		{nil, "", 0, 0, api.ErrMissing},
	} {
		if left, e := grave.Left(y, c.l, c.site, c.container); left != c.left || e != c.want {
			t.Errorf("%q, container %d: %d %d", c.site, c.container, left, e)
		}
	}
}
