package grave

import (
	"slices"

	"mortsafe/api"
)

// Replay returns the lots behind the accepted beginning of events, how many events
// this has, and the error of the next one.
func Replay(y api.Yard, l []api.Event) ([]api.Lot, int, api.Errno) {
	h, e := replay(y, l)
	return slices.Collect(h.lots), len(h.stays), e
}

// Add returns the events with one more behind them.
func Add(y api.Yard, l []api.Event, e api.Event) ([]api.Event, api.Errno) {
	h, wrong := replay(y, l)
	if wrong := firstError(wrong, errorIf(len(l) == api.MaxEvents, api.ErrLarge)); wrong != api.OK {
		return nil, wrong
	}
	if wrong := h.errorOf(e); wrong != api.OK {
		return nil, wrong
	}
	return append(slices.Clone(l), e), api.OK
}

// On returns the lots on a day, by remains.
func On(y api.Yard, l []api.Event, day int) ([]api.Lot, api.Errno) {
	h, wrong := replay(y, l)
	if e := firstError(wrong, checkDay(day)); e != api.OK {
		return nil, e
	}
	return slices.Collect(h.until(day).lots), api.OK
}

// Where returns the lot of a remain on a day.
func Where(y api.Yard, l []api.Event, remain string, day int) (api.Lot, api.Errno) {
	h, wrong := replay(y, l)
	if e := firstError(wrong, checkDay(day)); e != api.OK {
		return api.Lot{}, e
	}
	return h.until(day).lotOf(remain)
}

// Within returns the lots of what lies at a site, or is scattered there, on a day,
// by levels.
func Within(y api.Yard, l []api.Event, site string, day int) ([]api.Lot, api.Errno) {
	h, wrong := replay(y, l)
	_, missing := findSite(y, site)
	if e := firstError(wrong, missing, checkDay(day)); e != api.OK {
		return nil, e
	}
	return h.until(day).lotsAt(site), api.OK
}

// Stays returns all lots that a remain had, in their order.
func Stays(y api.Yard, l []api.Event, remain string) ([]api.Stay, api.Errno) {
	h, wrong := replay(y, l)
	_, missing := h.lotOf(remain)
	if e := firstError(wrong, missing); e != api.OK {
		return nil, e
	}
	return slices.DeleteFunc(h.stays, func(stay api.Stay) bool { return stay.Lot.Remain != remain }), api.OK
}

// Levels returns for each level of a site the stays of remains there, in the order
// of the events that brought them.
func Levels(y api.Yard, l []api.Event, site string) ([][]api.Stay, api.Errno) {
	h, wrong := replay(y, l)
	s, missing := findSite(y, site)
	if e := firstError(wrong, missing); e != api.OK {
		return nil, e
	}
	levels := make([][]api.Stay, s.Room)
	for _, stay := range h.stays {
		if lot := stay.Lot; lot.Site == site {
			levels[lot.Level] = append(levels[lot.Level], stay)
		}
	}
	return levels, api.OK
}
