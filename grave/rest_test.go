package grave_test

import (
	"slices"
	"testing"

	"mortsafe/api"
	"mortsafe/grave"
)

// P3.7: when the rest of what lies is over, with the chapter's example 3.
func TestRestOver(t *testing.T) {
	y := yard()
	y.Rests = append(y.Rests, api.Rest{Soil: 0, Container: api.Urn, Days: 100000})
	late := append(two(), bury(api.MaxDay, "v", 0, "l", api.Urn), bury(api.MaxDay, "v", 1, "m", api.Coffin))
	again := []api.Event{bury(5, "n", 0, "x", api.Urn), byOrder(exhume(9, "x")), rebury(10, "a", 1, "x", api.Urn), byOrder(lower(20, 0, "x"))}
	for _, c := range []struct {
		l      []api.Event
		remain string
		day    int
		want   api.Errno
	}{
		{two(), "x", 7400, api.OK},
		{two(), "y", 7500, api.OK},
		{late, "l", 300000, api.OK},
		{late, "m", api.MaxDay, api.OK},
		{again[:1], "x", 100005, api.OK},
		{again[:3], "x", 3660, api.OK},
		{again, "x", 3670, api.OK},
		{again[:2], "x", 0, api.ErrState},
		{[]api.Event{bury(5, "s", 0, "x", api.Ashes)}, "x", 0, api.ErrState},
		{[]api.Event{bury(5, "v", 0, "x", api.Coffin), gather(6, "x")}, "x", 0, api.ErrState},
		{two(), "q", 0, api.ErrMissing},
		{two(), "", 0, api.ErrMissing},
		{nil, "x", 0, api.ErrMissing},
	} {
		if day, e := grave.RestOver(y, c.l, c.remain); day != c.day || e != c.want {
			t.Errorf("%q behind %d events: %d %d", c.remain, len(c.l), day, e)
		}
	}
}

// P3.7: the sites at which all rests are over; none at which nothing lies.
func TestReusable(t *testing.T) {
	y := yard()
	slices.Reverse(y.Sites)
	y.Rests = append(y.Rests, api.Rest{Soil: 0, Container: api.Urn, Days: 50})
	l := append(two(), bury(200, "v", 0, "w", api.Coffin), bury(200, "s", 0, "t", api.Ashes), bury(300, "v", 1, "w2", api.Urn), bury(300, "n", 1, "k", api.Urn))
	more := behind(l, exhume(350, "w2"), gather(7500, "y"))
	for _, c := range []struct {
		l    []api.Event
		day  int
		want []string
	}{
		{nil, 5, nil},
		{l, 199, nil},
		{l, 200, []string{"v"}},
		{l, 299, []string{"v"}},
		{l, 300, nil},
		{l, 349, nil},
		{l, 350, []string{"n", "v"}},
		{l, 7499, []string{"n", "v"}},
		{l, 7500, []string{"n", "v", "a"}},
		{l, api.MaxDay, []string{"n", "v", "a"}},
		{more, 350, []string{"n", "v"}},
		{more, 7499, []string{"n", "v"}},
		{more, 7500, []string{"n", "v", "a"}},
		{behind(more, exhume(7500, "w"), gather(7500, "x")), 7500, []string{"n"}},
		{behind(more, exhume(7600, "w"), gather(7600, "x")), 7599, []string{"n", "v", "a"}},
	} {
		if sites, e := grave.Reusable(y, c.l, c.day); !same(sites, c.want) || e != api.OK {
			t.Errorf("day %d: %v %d", c.day, sites, e)
		}
	}
	for _, day := range noDays {
		if sites, e := grave.Reusable(y, l, day); sites != nil || e != api.ErrRange {
			t.Error(day, sites, e)
		}
	}
}

// P3.7: the events that gather what lies at a site, with the chapter's example 4.
func TestGatherAll(t *testing.T) {
	y := yard()
	y.Rests = append(y.Rests, api.Rest{Soil: 0, Container: api.Urn, Days: 50})
	l := append(two(), bury(200, "v", 0, "z", api.Coffin), bury(200, "s", 0, "t", api.Ashes), bury(300, "v", 1, "b", api.Urn))
	for _, c := range []struct {
		l    []api.Event
		site string
		day  int
		want []api.Event
		err  api.Errno
	}{
		{two(), "a", 7500, []api.Event{gather(7500, "y"), gather(7500, "x")}, api.OK},
		{two(), "a", 7499, nil, api.ErrRest},
		{two(), "a", 7400, nil, api.ErrRest},
		{two(), "a", 200, nil, api.ErrRest},
		{two(), "a", 199, nil, api.ErrOrder},
		{two()[:1], "a", 7400, []api.Event{gather(7400, "x")}, api.OK},
		{l, "v", 349, nil, api.ErrRest},
		{l, "v", 350, []api.Event{gather(350, "b"), gather(350, "z")}, api.OK},
		{l, "v", 299, nil, api.ErrOrder},
		{l, "n", 300, nil, api.OK},
		{l, "n", 299, nil, api.ErrOrder},
		{l, "s", 300, nil, api.OK},
		{l, "s", 299, nil, api.ErrOrder},
		{behind(l, exhume(350, "b")), "v", 350, []api.Event{gather(350, "z")}, api.OK},
		{behind(l, byOrder(exhume(350, "y"))), "a", 7400, []api.Event{gather(7400, "x")}, api.OK},
		{nil, "a", 0, nil, api.OK},
		{nil, "a", api.MaxDay, nil, api.OK},
		{l, "q", -1, nil, api.ErrMissing},
		{l, "", 300, nil, api.ErrMissing},
		{l, "a", -1, nil, api.ErrRange},
		{l, "a", api.MaxDay + 1, nil, api.ErrRange},
	} {
		if events, e := grave.GatherAll(y, c.l, c.site, c.day); !same(events, c.want) || e != c.err {
			t.Errorf("%q on day %d: %v %d", c.site, c.day, events, e)
		}
	}
}
