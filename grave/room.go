package grave

import (
	"slices"

	"mortsafe/api"
)

// free returns a function that yields the levels of a site at which a container can
// be put.
func (h *history) free(s api.Site, container int) func(yield func(int) bool) {
	return func(yield func(int) bool) {
		for level := range s.Room {
			if h.errorOfLevel(s, level, container) == api.OK && !yield(level) {
				return
			}
		}
	}
}

// Free returns all levels at which a container can be put on a day, by sites.
func Free(y api.Yard, l []api.Event, container, day int) ([]api.Berth, api.Errno) {
	h, wrong := replay(y, l)
	if e := firstError(wrong, checkContainer(container), checkDay(day)); e != api.OK {
		return nil, e
	}
	h = h.until(day)
	var berths []api.Berth
	for _, s := range y.Sites {
		for level := range h.free(s, container) {
			berths = append(berths, api.Berth{Site: s.Name, Level: level})
		}
	}
	return berths, api.OK
}

// FirstFree returns the least level of a site, from one of its levels on, at which
// a container can be put on a day.
func FirstFree(y api.Yard, l []api.Event, at api.Berth, container, day int) (int, api.Errno) {
	h, wrong := replay(y, l)
	s, missing := findSite(y, at.Site)
	if e := firstError(wrong, missing, checkLevel(s, at.Level), checkContainer(container), checkDay(day)); e != api.OK {
		return 0, e
	}
	for level := range h.until(day).free(s, container) {
		if level >= at.Level {
			return level, api.OK
		}
	}
	return 0, api.ErrFull
}

// Left returns how many burials in a container can still be made at a site.
func Left(y api.Yard, l []api.Event, site string, container int) (int, api.Errno) {
	h, wrong := replay(y, l)
	s, missing := findSite(y, site)
	isScatter := s.Kind == api.SiteScatter
	if e := firstError(wrong, missing, checkContainer(container), errorIf(isScatter, api.ErrKind)); e != api.OK {
		return 0, e
	}
	// The levels that are free now can all be filled, from the deepest one on.
	return len(slices.Collect(h.free(s, container))), api.OK
}
