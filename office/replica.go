package office

import (
	"slices"

	"mortsafe/api"
)

// Office is an office with its entries, and those of others that it has taken, in canonical order.
type Office struct {
	name    string
	base    api.Base
	entries []api.Entry
}

// New returns an office without entries.
func New(name string, b api.Base) (*Office, api.Errno) {
	if e := firstError(CheckBase(b), errorIf(!isName(name), api.ErrName)); e != api.OK {
		return nil, e
	}
	b.Yard.Sites, b.Yard.Rests, b.Laws = slices.Clone(b.Yard.Sites), slices.Clone(b.Yard.Rests), slices.Clone(b.Laws)
	return &Office{name: name, base: b}, api.OK
}

// items returns all entries with what they say.
func (o *Office) items() []item {
	items, _ := understandAll(o.entries)
	return items
}

// last returns the last entry of this office, or one with the number 0.
func (o *Office) last() api.Entry {
	var last api.Entry
	for _, e := range o.entries {
		if e.Office == o.name {
			last = e
		}
	}
	return last
}

// Enter adds an entry of this office, and returns its number.
func (o *Office) Enter(entered, day int, text string) (int, api.Errno) {
	if o == nil {
		return 0, api.ErrNil
	}
	if len(o.entries) == api.MaxEntries {
		return 0, api.ErrLarge
	}
	last := o.last()
	x, wrong := understand(api.Entry{Office: o.name, Number: last.Number + 1, Entered: entered, Day: day, Text: text})
	if e := firstError(wrong, errorIf(entered < last.Entered, api.ErrOrder), o.checkWithdrawal(x)); e != api.OK {
		return 0, e
	}
	items := append(o.items(), x)
	slices.SortFunc(items, canonically)
	o.entries = entriesOf(items)
	return x.Number, api.OK
}

// checkWithdrawal returns the error of an entry that withdraws something; others have none.
func (o *Office) checkWithdrawal(x item) api.Errno {
	w, is := x.content.(withdrawal)
	if !is {
		return api.OK
	}
	items := o.items()
	isNamed := func(x item) bool { return x.isFact() && keyOf(x.Entry) == w.Key }
	return firstError(
		errorIf(!slices.ContainsFunc(items, isNamed), api.ErrMissing),
		errorIf(withdrawnOn(items, api.MaxDay)[w.Key], api.ErrState),
	)
}

// Undo withdraws the last fact of this office that is not withdrawn, and returns its number.
func (o *Office) Undo(entered int) (int, api.Errno) {
	if o == nil {
		return 0, api.ErrNil
	}
	items := o.items()
	withdrawn := withdrawnOn(items, api.MaxDay)
	for _, x := range slices.Backward(items) {
		if k := keyOf(x.Entry); x.Office == o.name && x.isFact() && !withdrawn[k] {
			_, e := o.Enter(entered, entered, withdrawal{k}.write())
			if e != api.OK {
				return 0, e
			}
			return k.Number, api.OK
		}
	}
	return 0, api.ErrNone
}

// Take merges entries of other offices with those that are there.
func (o *Office) Take(l []api.Entry) api.Errno {
	if o == nil {
		return api.ErrNil
	}
	merged, e := Merge(o.entries, l)
	if e != api.OK {
		return e
	}
	isStrange := func(e api.Entry) bool { return e.Office == o.name && !slices.Contains(o.entries, e) }
	if slices.ContainsFunc(l, isStrange) {
		return api.ErrState
	}
	o.entries = merged
	return api.OK
}

// Entries returns all entries, in canonical order.
func (o *Office) Entries() []api.Entry {
	if o == nil {
		return nil
	}
	return slices.Clone(o.entries)
}
