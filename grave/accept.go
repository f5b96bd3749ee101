package grave

import (
	"slices"

	"mortsafe/api"
)

// errorOf returns the error of an event behind a history.
func (h *history) errorOf(e api.Event) api.Errno {
	if wrong := firstError(CheckEvent(e), errorIf(e.Day < h.lastDay(), api.ErrOrder)); wrong != api.OK {
		return wrong
	}
	lot, missing := h.lotOf(e.Remain)
	switch e.Kind {
	case api.Bury:
		return firstError(errorIf(missing == api.OK, api.ErrExists), h.errorOfPlace(e))
	case api.Rebury:
		return firstError(missing, errorIf(lot.State != api.Keeping, api.ErrState), h.errorOfPlace(e))
	}
	if wrong := firstError(missing, errorIf(lot.State != api.Lies, api.ErrState)); wrong != api.OK {
		return wrong
	}
	return firstError(h.errorOfLowering(e, lot), h.errorOfTaking(e, lot))
}

// errorOfPlace tells why something cannot be put where an event puts it.
func (h *history) errorOfPlace(e api.Event) api.Errno {
	s, missing := findSite(h.yard, e.Site)
	if missing != api.OK {
		return missing
	}
	return h.errorOfLevel(s, e.Level, e.Container)
}

func (h *history) errorOfLevel(s api.Site, level, container int) api.Errno {
	if e := checkLevel(s, level); e != api.OK {
		return e
	}
	return firstError(
		errorIf(!takes(h.yard, s, level, container), api.ErrKind),
		errorIf(h.occupied(s.Name)[level], api.ErrFull),
		errorIf(h.isCovered(s, level), api.ErrBusy),
	)
}

// errorOfLowering tells why a remain cannot be put where an event lowers it; of
// other events there is none.
func (h *history) errorOfLowering(e api.Event, lot api.Lot) api.Errno {
	if e.Kind != api.Lower {
		return api.OK
	}
	s, _ := findSite(h.yard, lot.Site)
	if s.Kind != api.SiteEarth {
		return api.ErrKind
	}
	if e.Level >= lot.Level {
		return api.ErrRange
	}
	levels := h.occupied(s.Name)
	return errorIf(slices.Contains(levels[e.Level:lot.Level], true), api.ErrFull)
}

// errorOfTaking tells why a remain cannot be taken from where it lies.
func (h *history) errorOfTaking(e api.Event, lot api.Lot) api.Errno {
	s, _ := findSite(h.yard, lot.Site)
	return firstError(
		errorIf(h.isCovered(s, lot.Level), api.ErrBusy),
		errorIf(e.Day < h.restOver(lot) && !e.Order, api.ErrRest),
	)
}

// lotBehind returns the lot that an accepted event gives to its remain.
func (h *history) lotBehind(e api.Event) api.Lot {
	lot := api.Lot{Remain: e.Remain, Since: e.Day}
	switch e.Kind {
	case api.Exhume:
		lot.State = api.Keeping
	case api.Gather:
		lot.State = api.Gathered
	case api.Lower:
		lot, _ = h.lotOf(e.Remain)
		lot.Level, lot.Since = e.Level, e.Day
	default:
		lot.State, lot.Site, lot.Level, lot.Container = h.stateAt(e.Site), e.Site, e.Level, e.Container
	}
	return lot
}

// stateAt returns the state of what is put at a site.
func (h *history) stateAt(site string) int {
	if s, _ := findSite(h.yard, site); s.Kind == api.SiteScatter {
		return api.Scattered
	}
	return api.Lies
}
