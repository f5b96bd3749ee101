package right

import (
	"slices"

	"mortsafe/api"
)

// MayBury tells whether a person may be buried at a place.
func MayBury(r api.Rights, place, name string, day int) (bool, api.Errno) {
	w, t, e := titleOn(r, day, place, name)
	if e != api.OK {
		return false, e
	}
	isEntitled := func(x string) bool { return t.of(x) != none || slices.Contains(t.departed, x) }
	return t.class == api.ClassCommon || slices.ContainsFunc(w.through(name, t.class), isEntitled), api.OK
}

// through returns the people of whom one must be entitled so that a person may be buried
// by a right of a class.
func (w *world) through(name string, class int) []string {
	near := []string{name}
	if class == api.ClassExclusive {
		return near
	}
	near = slices.Concat(near, slices.Collect(w.spouses(name)), w.ancestors(name))
	if class == api.ClassFamily {
		return near
	}
	return slices.Concat(near, w.children[name])
}

// Majority returns the fewest holders of a place whose shares add up to more than 1/2.
func Majority(r api.Rights, place string, day int) ([]string, api.Errno) {
	_, t, e := titleOn(r, day, place)
	if e != api.OK {
		return nil, e
	}
	sum, half := none, api.Frac{Num: 1, Den: 2}
	var most []string
	for _, p := range t.greatest() {
		sum = plus(sum, p.Share)
		if isTooFine(sum) {
			return nil, api.ErrLarge
		}
		most = append(most, p.Name)
		if compareFracs(sum, half) > 0 {
			slices.Sort(most)
			return most, api.OK
		}
	}
	return nil, api.ErrNone
}

// greatest returns what people have, without unknown heirs, from the greatest share on,
// and equal ones by name.
func (s shares) greatest() []api.Part {
	isUnknown := func(p api.Part) bool { return p.Name == "" }
	parts := slices.DeleteFunc(s.parts(), isUnknown)
	slices.SortStableFunc(parts, func(a, b api.Part) int { return compareFracs(b.Share, a.Share) })
	return parts
}
