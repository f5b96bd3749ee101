package right

import (
	"slices"

	"mortsafe/api"
	"mortsafe/rule"
)

// endless is the end of a right that has none.
const endless = -1

// title is a right since its grant.
type title struct {
	shares
	place      string
	class, end int
	departed   []string // who died as a holder
}

// world is what accepted deeds led to, as it is on a day.
type world struct {
	people
	laws   []api.Law
	titles []*title // in the order of the grants
	deeds  int
	day    int
}

// replay returns the world behind the accepted beginning of deeds, and the error of the
// next one.
func replay(r api.Rights) (*world, api.Errno) {
	w := &world{people: nobody(), laws: r.Laws}
	if e := CheckLaws(r.Laws); e != api.OK {
		return w, e
	}
	for _, d := range r.Deeds {
		if e := w.take(d); e != api.OK {
			return w, e
		}
	}
	return w, api.OK
}

// until returns the world on a day, by rights that have no error.
func until(r api.Rights, day int) *world {
	isLater := func(d api.Deed) bool { return d.Day > day }
	if later := slices.IndexFunc(r.Deeds, isLater); later >= 0 {
		r.Deeds = r.Deeds[:later]
	}
	w, _ := replay(r)
	w.day = day
	return w
}

// on returns the world on a day; the names are arguments of the function that asks.
func on(r api.Rights, day int, names ...string) (*world, api.Errno) {
	_, wrong := replay(r)
	if e := firstError(wrong, checkNames(names...), checkDay(day)); e != api.OK {
		return nil, e
	}
	return until(r, day), api.OK
}

// inForce returns the right of a place, and whether one is in force.
func (w *world) inForce(place string) (*title, bool) {
	for _, t := range w.titles {
		if t.place == place && w.isInForce(t) {
			return t, true
		}
	}
	return nil, false
}

func (w *world) isInForce(t *title) bool {
	return len(t.shares) > 0 && (t.end == endless || w.day < t.end)
}

// held returns the rights in force of which a person holds a share.
func (w *world) held(name string) []*title {
	var held []*title
	for _, t := range w.titles {
		if w.isInForce(t) && t.of(name) != none {
			held = append(held, t)
		}
	}
	return held
}

// take accepts a further deed, or tells why not. Behind an error the world is of no use.
func (w *world) take(d api.Deed) api.Errno {
	e := firstError(
		CheckDeed(d),
		errorIf(w.deeds == api.MaxDeeds, api.ErrLarge),
		errorIf(d.Day < w.day, api.ErrOrder),
	)
	if e != api.OK {
		return e
	}
	w.day = d.Day
	if e := w.takeKind(d); e != api.OK {
		return e
	}
	w.deeds++
	return api.OK
}

func (w *world) takeKind(d api.Deed) api.Errno {
	switch d.Kind {
	case api.DeedGrant:
		return w.takeGrant(d)
	case api.DeedTransfer, api.DeedSurrender, api.DeedRenewal:
		return w.takeOfRight(d)
	case api.DeedWill:
		return w.takeWill(d)
	case api.DeedRenounce:
		return w.takeRenounce(d)
	case api.DeedChild:
		return w.takeChild(d)
	case api.DeedMarriage:
		return w.takeMarriage(d)
	}
	return w.takeDeath(d)
}

func (w *world) takeGrant(d api.Deed) api.Errno {
	t := &title{shares: shares{}, place: d.Place, class: d.Class, end: endless}
	late := api.OK
	if d.Years != 0 {
		t.end, late = yearsLater(d.Day, d.Years)
	}
	_, clashes := w.inForce(d.Place)
	if e := firstError(errorIf(clashes, api.ErrClash), w.checkLiving(namesOf(d.To)...), late); e != api.OK {
		return e
	}
	for _, p := range d.To {
		t.give(p.Name, p.Share)
	}
	w.titles = append(w.titles, t)
	return api.OK
}

func yearsLater(day, years int) (int, api.Errno) { return rule.AddMonths(day, 12*years) }

// takeOfRight accepts a deed of a right that must be in force.
func (w *world) takeOfRight(d api.Deed) api.Errno {
	t, is := w.inForce(d.Place)
	if !is {
		return api.ErrMissing
	}
	switch d.Kind {
	case api.DeedTransfer:
		return w.takeTransfer(t, d)
	case api.DeedSurrender:
		return t.surrender(d.From)
	}
	return t.renew(d.Years)
}

func (w *world) takeTransfer(t *title, d api.Deed) api.Errno {
	e := firstError(
		errorIf(t.class == api.ClassCommon, api.ErrKind),
		errorIf(t.of(d.From) == none, api.ErrRight),
		w.checkLiving(namesOf(d.To)...),
	)
	if e != api.OK {
		return e
	}
	return t.pass(d.From, d.To, minus(whole, total(d.To)))
}

func (t *title) surrender(from string) api.Errno {
	if t.of(from) == none {
		return api.ErrRight
	}
	return t.drop(from)
}

func (t *title) renew(years int) api.Errno {
	if t.end == endless {
		return api.ErrKind
	}
	end, e := yearsLater(t.end, years)
	t.end = end
	return e
}

func (w *world) takeDeath(d api.Deed) api.Errno {
	if e := w.checkLiving(d.From); e != api.OK {
		return e
	}
	if e := w.passOn(d.From); e != api.OK {
		return e
	}
	w.dead[d.From] = true
	return api.OK
}

// passOn gives all that a person holds to its heirs. Who holds nothing has no
// heirs here, whose fractions might be too fine.
func (w *world) passOn(name string) api.Errno {
	held := w.held(name)
	if len(held) == 0 {
		return api.OK
	}
	heirs, e := w.estate(name, lawOn(w.laws, w.day))
	if e != api.OK {
		return e
	}
	for _, t := range held {
		if e := t.pass(name, heirs, none); e != api.OK {
			return e
		}
		t.departed = append(t.departed, name)
	}
	return api.OK
}

// Next returns the rights with one more deed behind the others.
func Next(r api.Rights, d api.Deed) (api.Rights, api.Errno) {
	w, e := replay(r)
	if e != api.OK {
		return api.Rights{}, e
	}
	if e := w.take(d); e != api.OK {
		return api.Rights{}, e
	}
	further := api.Rights{Laws: slices.Clone(r.Laws)}
	for _, earlier := range r.Deeds {
		further.Deeds = append(further.Deeds, copied(earlier))
	}
	further.Deeds = append(further.Deeds, copied(d))
	return further, api.OK
}

// copied returns a deed with parts of its own.
func copied(d api.Deed) api.Deed {
	d.To = slices.Clone(d.To)
	return d
}

// Replay returns the number of accepted deeds, and the error of the next one, or of the
// laws.
func Replay(r api.Rights) (int, api.Errno) {
	w, e := replay(r)
	return w.deeds, e
}
