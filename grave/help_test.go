package grave_test

import (
	"math"
	"reflect"
	"slices"

	"mortsafe/api"
)

var noDays = []int{-1, api.MaxDay + 1, math.MinInt, math.MaxInt}

var noContainers = []int{-1, 3, math.MinInt, math.MaxInt}

// yard is the yard of the chapter's examples.
func yard() api.Yard {
	return api.Yard{
		Sites: []api.Site{
			earth("a", 1, 240, 80, 3),
			{Name: "v", Kind: api.SiteVault, Room: 2},
			{Name: "n", Kind: api.SiteNiche, Room: 2},
			{Name: "s", Kind: api.SiteScatter, Room: 1},
		},
		Rests:  []api.Rest{{Soil: 1, Container: api.Coffin, Days: 7300}, {Soil: 1, Container: api.Urn, Days: 3650}},
		Covers: [3]int{150, 60, 0},
	}
}

// wrongYard has an error, which is told before all others.
func wrongYard() api.Yard { return api.Yard{Sites: []api.Site{{Name: "1"}}} }

func earth(name string, soil, depth, step, room int) api.Site {
	return api.Site{Name: name, Kind: api.SiteEarth, Soil: soil, Depth: depth, Step: step, Room: room}
}

func bury(day int, site string, level int, remain string, container int) api.Event {
	return api.Event{Day: day, Kind: api.Bury, Site: site, Level: level, Remain: remain, Container: container}
}

func rebury(day int, site string, level int, remain string, container int) api.Event {
	return api.Event{Day: day, Kind: api.Rebury, Site: site, Level: level, Remain: remain, Container: container}
}

func exhume(day int, remain string) api.Event {
	return api.Event{Day: day, Kind: api.Exhume, Remain: remain}
}

func lower(day, level int, remain string) api.Event {
	return api.Event{Day: day, Kind: api.Lower, Level: level, Remain: remain}
}

func gather(day int, remain string) api.Event {
	return api.Event{Day: day, Kind: api.Gather, Remain: remain}
}

func byOrder(e api.Event) api.Event {
	e.Order = true
	return e
}

func lies(remain, site string, level, container, since int) api.Lot {
	return api.Lot{Remain: remain, State: api.Lies, Site: site, Level: level, Container: container, Since: since}
}

func kept(remain string, since int) api.Lot {
	return api.Lot{Remain: remain, State: api.Keeping, Since: since}
}

func gathered(remain string, since int) api.Lot {
	return api.Lot{Remain: remain, State: api.Gathered, Since: since}
}

func scattered(remain, site string, since int) api.Lot {
	return api.Lot{Remain: remain, State: api.Scattered, Site: site, Container: api.Ashes, Since: since}
}

func stay(lot api.Lot, to int) api.Stay { return api.Stay{Lot: lot, To: to} }

// two is the events of the chapter's example 2.
func two() []api.Event {
	return []api.Event{bury(100, "a", 0, "x", api.Coffin), bury(200, "a", 1, "y", api.Coffin)}
}

// many is events of all kinds, with all states of remains and several on one day.
func many() []api.Event {
	return []api.Event{
		bury(100, "a", 0, "x", api.Coffin),
		bury(200, "a", 1, "y", api.Coffin),
		bury(200, "v", 1, "w", api.Urn),
		bury(200, "s", 0, "t", api.Ashes),
		byOrder(exhume(300, "y")),
		rebury(300, "n", 0, "y", api.Urn),
		exhume(300, "w"),
		bury(400, "a", 2, "u", api.Urn),
		bury(450, "s", 0, "b", api.Ashes),
		exhume(500, "y"),
		rebury(600, "s", 0, "y", api.Ashes),
		byOrder(lower(700, 1, "u")),
		gather(4350, "u"),
		gather(7400, "x"),
	}
}

// same compares two results, in which nil and empty lists are the same.
func same[T any](a, b []T) bool { return len(a) == 0 && len(b) == 0 || reflect.DeepEqual(a, b) }

// behind returns events with further ones, in memory of their own.
func behind(l []api.Event, further ...api.Event) []api.Event { return slices.Concat(l, further) }

func repeat(n int, what func(i int) api.Event) []api.Event {
	var l []api.Event
	for i := range n {
		l = append(l, what(i))
	}
	return l
}
