package grave

import (
	"slices"

	"mortsafe/api"
)

// RestOver returns the day from which on the rest of a remain is over.
func RestOver(y api.Yard, l []api.Event, remain string) (int, api.Errno) {
	h, wrong := replay(y, l)
	lot, missing := h.lotOf(remain)
	if e := firstError(wrong, missing, errorIf(lot.State != api.Lies, api.ErrState)); e != api.OK {
		return 0, e
	}
	return h.restOver(lot), api.OK
}

// restsOn returns a function that tells whether the rest of what lies is not over
// on a day.
func (h *history) restsOn(day int) func(lot api.Lot) bool {
	return func(lot api.Lot) bool { return h.restOver(lot) > day }
}

// Reusable returns the sites at which something lies on a day, and the rest of all
// of it is over.
func Reusable(y api.Yard, l []api.Event, day int) ([]string, api.Errno) {
	h, wrong := replay(y, l)
	if e := firstError(wrong, checkDay(day)); e != api.OK {
		return nil, e
	}
	h = h.until(day)
	var sites []string
	for _, s := range y.Sites {
		lots := h.lying(s.Name)
		if len(lots) > 0 && !slices.ContainsFunc(lots, h.restsOn(day)) {
			sites = append(sites, s.Name)
		}
	}
	return sites, api.OK
}

// GatherAll returns the events that gather all that lies at a site, from the
// greatest level down.
func GatherAll(y api.Yard, l []api.Event, site string, day int) ([]api.Event, api.Errno) {
	h, wrong := replay(y, l)
	_, missing := findSite(y, site)
	late := errorIf(day < h.lastDay(), api.ErrOrder)
	lots := h.lying(site)
	resting := errorIf(slices.ContainsFunc(lots, h.restsOn(day)), api.ErrRest)
	if e := firstError(wrong, missing, checkDay(day), late, resting); e != api.OK {
		return nil, e
	}
	var events []api.Event
	for _, lot := range slices.Backward(lots) {
		events = append(events, api.Event{Day: day, Kind: api.Gather, Remain: lot.Remain})
	}
	return events, api.OK
}
