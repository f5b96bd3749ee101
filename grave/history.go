package grave

import (
	"cmp"
	"maps"
	"slices"

	"mortsafe/api"
)

// lasting is the end of a stay that has none.
const lasting = -1

// history is a yard, and the stays to which accepted events led, one to each.
type history struct {
	yard  api.Yard
	stays []api.Stay
	last  map[string]int // the number of the last stay of each remain
}

func begin(y api.Yard) *history { return &history{yard: y, last: map[string]int{}} }

// replay returns the history of the accepted beginning, and the error behind it.
func replay(y api.Yard, l []api.Event) (*history, api.Errno) {
	h := begin(y)
	if e := firstError(CheckYard(y), errorIf(len(l) > api.MaxEvents, api.ErrLarge)); e != api.OK {
		return h, e
	}
	for _, e := range l {
		if wrong := h.errorOf(e); wrong != api.OK {
			return h, wrong
		}
		h.put(h.lotBehind(e))
	}
	return h, api.OK
}

// put gives a remain a new lot, with which the one that it has ends.
func (h *history) put(lot api.Lot) {
	if before, has := h.last[lot.Remain]; has {
		h.stays[before].To = lot.Since
	}
	h.last[lot.Remain] = len(h.stays)
	h.stays = append(h.stays, api.Stay{Lot: lot, To: lasting})
}

// until returns the history as it is on a day.
func (h *history) until(day int) *history {
	earlier := begin(h.yard)
	for _, stay := range h.stays {
		if stay.Lot.Since <= day {
			earlier.put(stay.Lot)
		}
	}
	return earlier
}

// lastDay returns the day before which no further event may be.
func (h *history) lastDay() int {
	if len(h.stays) == 0 {
		return 0
	}
	return h.stays[len(h.stays)-1].Lot.Since
}

func (h *history) lotOf(remain string) (api.Lot, api.Errno) {
	i, has := h.last[remain]
	if !has {
		return api.Lot{}, api.ErrMissing
	}
	return h.stays[i].Lot, api.OK
}

// lots yields the lots that remains have, by the names of the remains.
func (h *history) lots(yield func(api.Lot) bool) {
	for _, remain := range slices.Sorted(maps.Keys(h.last)) {
		if !yield(h.stays[h.last[remain]].Lot) {
			return
		}
	}
}

// lotsAt returns the lots at a site, by levels, and those of a level by remains.
func (h *history) lotsAt(site string) []api.Lot {
	var there []api.Lot
	for lot := range h.lots {
		if lot.Site == site {
			there = append(there, lot)
		}
	}
	slices.SortStableFunc(there, func(a, b api.Lot) int { return cmp.Compare(a.Level, b.Level) })
	return there
}

// lying returns the lots of what lies at a site, by levels.
func (h *history) lying(site string) []api.Lot {
	return slices.DeleteFunc(h.lotsAt(site), func(lot api.Lot) bool { return lot.State != api.Lies })
}

// occupied tells of each level of a site whether a remain lies at it.
func (h *history) occupied(site string) [api.MaxLevels]bool {
	var levels [api.MaxLevels]bool
	for _, stay := range h.stays {
		if stay.To == lasting && stay.Lot.State == api.Lies && stay.Lot.Site == site {
			levels[stay.Lot.Level] = true
		}
	}
	return levels
}

// isCovered tells whether a remain lies above a level.
func (h *history) isCovered(s api.Site, level int) bool {
	levels := h.occupied(s.Name)
	return s.Kind == api.SiteEarth && slices.Contains(levels[level+1:], true)
}

// restOver returns the day from which on the rest of what lies is over.
func (h *history) restOver(lot api.Lot) int {
	s, _ := findSite(h.yard, lot.Site)
	return lot.Since + restOf(h.yard, s, lot.Container)
}
