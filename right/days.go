package right

import (
	"slices"

	"mortsafe/api"
)

// Holders returns the holders of a place on a day, ascending by name.
func Holders(r api.Rights, place string, day int) ([]api.Part, api.Errno) {
	w, e := on(r, day, place)
	if e != api.OK {
		return nil, e
	}
	return w.holders(place), api.OK
}

func (w *world) holders(place string) []api.Part {
	t, is := w.inForce(place)
	if !is {
		return nil
	}
	return t.parts()
}

// Share returns the share of a place that a person holds on a day.
func Share(r api.Rights, place, name string, day int) (api.Frac, api.Errno) {
	w, e := on(r, day, place, name)
	if e != api.OK {
		return api.Frac{}, e
	}
	t, is := w.inForce(place)
	if !is {
		return none, api.OK
	}
	return t.of(name), api.OK
}

// titleOn returns the world on a day, and the right of a place that is in force then.
func titleOn(r api.Rights, day int, place string, names ...string) (*world, *title, api.Errno) {
	w, e := on(r, day, append([]string{place}, names...)...)
	if e != api.OK {
		return nil, nil, e
	}
	t, is := w.inForce(place)
	return w, t, errorIf(!is, api.ErrNone)
}

// Class returns the class of the right of a place on a day.
func Class(r api.Rights, place string, day int) (int, api.Errno) {
	_, t, e := titleOn(r, day, place)
	if e != api.OK {
		return 0, e
	}
	return t.class, api.OK
}

// Ends returns the end of the right of a place as of a day, or -1 if it has none.
func Ends(r api.Rights, place string, day int) (int, api.Errno) {
	_, t, e := titleOn(r, day, place)
	if e != api.OK {
		return 0, e
	}
	return t.end, api.OK
}

// Tenures returns each day on which the holders of a place are others than the day
// before, or have other shares, with the holders on that day.
func Tenures(r api.Rights, place string) ([]api.Tenure, api.Errno) {
	_, wrong := replay(r)
	if e := firstError(wrong, checkNames(place)); e != api.OK {
		return nil, e
	}
	var tenures []api.Tenure
	var before []api.Part
	for _, day := range turns(r, place) {
		holders := until(r, day).holders(place)
		if !slices.Equal(holders, before) {
			tenures = append(tenures, api.Tenure{From: day, Holders: holders})
		}
		before = holders
	}
	return tenures, api.OK
}

// turns returns all days on which the holders of a place may become others, ascending:
// those of the deeds, and the ends of its rights (some of which were put off by then).
func turns(r api.Rights, place string) []int {
	var days []int
	for _, d := range r.Deeds {
		days = append(days, d.Day)
		t, is := until(r, d.Day).inForce(place)
		if is && t.end != endless {
			days = append(days, t.end)
		}
	}
	slices.Sort(days)
	return slices.Compact(days)
}

// Held returns the places of which a person holds a share on a day, ascending.
func Held(r api.Rights, name string, day int) ([]string, api.Errno) {
	w, e := on(r, day, name)
	if e != api.OK {
		return nil, e
	}
	var places []string
	for _, t := range w.held(name) {
		places = append(places, t.place)
	}
	slices.Sort(places)
	return places, api.OK
}

// Alive tells whether a person is living on a day.
func Alive(r api.Rights, name string, day int) (bool, api.Errno) {
	w, e := on(r, day, name)
	if e != api.OK {
		return false, e
	}
	return !w.isDead(name), api.OK
}

// Spouse returns the spouse of a person on a day, or "".
func Spouse(r api.Rights, name string, day int) (string, api.Errno) {
	w, e := on(r, day, name)
	if e != api.OK {
		return "", e
	}
	return w.spouse(name), api.OK
}

// Descendants returns the descendants of a person on a day, ascending.
func Descendants(r api.Rights, name string, day int) ([]string, api.Errno) {
	w, e := on(r, day, name)
	if e != api.OK {
		return nil, e
	}
	return w.descendants(name), api.OK
}

// Estate returns who would inherit from a person that died on a day, ascending by name.
func Estate(r api.Rights, name string, day int) ([]api.Part, api.Errno) {
	w, e := on(r, day, name)
	if e != api.OK {
		return nil, e
	}
	if e := w.checkLiving(name); e != api.OK {
		return nil, e
	}
	return w.estate(name, lawOn(w.laws, day))
}
