package right_test

import (
	"slices"
	"testing"

	"mortsafe/api"
	"mortsafe/right"
)

func alive(name string, day int) api.Record {
	return api.Record{Kind: api.RecordAlive, Name: name, Day: day}
}

func died(name string, day int) api.Record {
	return api.Record{Kind: api.RecordDied, Name: name, Day: day}
}

func childOf(name, parent string) api.Record {
	return api.Record{Kind: api.RecordChild, Name: name, Other: parent}
}

func holds(name, place string, num, den, day int) api.Record {
	return api.Record{Kind: api.RecordHolds, Name: name, Place: place, Share: frac(num, den), Day: day}
}

func granted(name, place string, from, until int) api.Record {
	return api.Record{Kind: api.RecordGrant, Name: name, Place: place, Day: from, Until: until}
}

func records(l ...api.Record) []api.Record { return l }

// rightRecords are records without an error, of all kinds, that do not contradict.
func rightRecords() []api.Record {
	return records(
		alive("ann", 0), alive("Z-9", api.MaxDay), died("bob", 0), died("cat", api.MaxDay), childOf("ann", "abcdefghijkl"),
		holds("ann", "p", 1, 1, 0), holds("dan", "q", 1, 12, api.MaxDay), holds("dan", "o", 11, 12, 5), holds("dan", "n", 2, 3, 5),
		granted("eve", "p", 0, 1), granted("eve", "q", 0, api.MaxDay), granted("eve", "o", api.MaxDay-1, api.MaxDay),
	)
}

// recordErrors returns the errors of all functions with records, beside which nothing else
// may stand.
func recordErrors(t *testing.T, l []api.Record) []api.Errno {
	t.Helper()
	is, a := right.Contradicts(l)
	set, b := right.Dispute(l)
	few, c := right.LeastDispute(l)
	if is || len(set)+len(few) > 0 {
		t.Error(l, is, set, few)
	}
	return []api.Errno{right.CheckRecords(l), a, b, c, right.CheckDispute(l, []int{-1, 5, 4})}
}

// wrongRecord checks that a record has an error, as the first one and behind right ones.
func wrongRecord(t *testing.T, r api.Record, want api.Errno) {
	t.Helper()
	for _, l := range [][]api.Record{{r}, {r, {Kind: -1}}, {r, {Kind: -1}, {Day: -1}, {Name: "?"}, {}}, with(rightRecords(), r)} {
		for i, e := range recordErrors(t, l) {
			if e != want {
				t.Error(i, r, e, want)
			}
		}
	}
}

// P5.6: records of all kinds are right.
func TestRightRecords(t *testing.T) {
	l := rightRecords()
	if e := right.CheckRecords(l); e != api.OK {
		t.Error(e)
	}
	if is, e := right.Contradicts(l); is || e != api.OK {
		t.Error(is, e)
	}
	for _, none := range [][]api.Record{nil, {}} {
		if is, e := right.Contradicts(none); is || e != api.OK || right.CheckRecords(none) != api.OK {
			t.Error(is, e)
		}
	}
	for _, r := range l {
		for _, name := range rightNames {
			r.Name = name
			if r.Place != "" {
				r.Place = name
			}
			if e := right.CheckRecords(records(r)); e != api.OK {
				t.Error(r, e)
			}
		}
	}
	for den := -2; den <= 15; den++ {
		for num := -2; num <= 15; num++ {
			common := slices.ContainsFunc([]int{2, 3, 5, 7, 11, 13}, func(p int) bool { return num%p == 0 && den%p == 0 })
			want := den >= 1 && den <= 12 && num >= 1 && num <= den && !common
			if e := right.CheckRecords(records(holds("ann", "p", num, den, 5))); (e == api.OK) != want || !want && e != api.ErrForm {
				t.Error(num, den, e)
			}
		}
	}
}

// P5.6: there are at most 40 records.
func TestMostRecords(t *testing.T) {
	most := repeat(40, always(alive("ann", 5)))
	if e := right.CheckRecords(most); e != api.OK {
		t.Error(e)
	}
	if is, e := right.Contradicts(with(most[:39], died("ann", 4))); !is || e != api.OK {
		t.Error(is, e)
	}
	for _, l := range [][]api.Record{with(most, alive("ann", 5)), with(most, api.Record{Kind: -1}), make([]api.Record, 41), repeat(41, always(api.Record{Kind: 9}))} {
		for i, e := range recordErrors(t, l) {
			if e != api.ErrLarge {
				t.Error(i, e)
			}
		}
	}
}

// P5.6: CheckRecords tells the errors of a record in their order.
func TestErrorsOfRecords(t *testing.T) {
	zero := api.Record{}
	worst := api.Record{Name: "", Other: "?", Place: "?", Day: -1, Until: -1, Share: frac(1, 0)}
	for _, kind := range with(extremes, 5) {
		for _, r := range with(rightRecords(), zero, worst) {
			r.Kind = kind
			wrongRecord(t, r, api.ErrKind)
		}
	}
	for _, day := range with(extremes, 200001) {
		for _, r := range with(rightRecords(), zero, worst) {
			early, late := r, r
			early.Day, late.Until = day, day
			wrongRecord(t, early, api.ErrRange)
			wrongRecord(t, late, api.ErrRange)
		}
	}
	for _, name := range wrongNames {
		for _, r := range rightRecords() {
			a, b, c := r, r, r
			a.Name, b.Other, c.Place = name, name, name
			wrongRecord(t, a, api.ErrName)
			wrongRecord(t, b, api.ErrName)
			wrongRecord(t, c, api.ErrName)
		}
	}
	wrongRecord(t, api.Record{Kind: 4, Name: "", Place: "?", Day: 5, Until: 4}, api.ErrName)
	wrongRecord(t, zero, api.ErrForm)
}

// P5.6: the fields of a record are those of its kind.
func TestFormsOfRecords(t *testing.T) {
	share := frac(1, 2)
	for _, r := range rightRecords() {
		change := func(what func(r *api.Record)) {
			t.Helper()
			changed := r
			what(&changed)
			wrongRecord(t, changed, api.ErrForm)
		}
		change(func(r *api.Record) { r.Name = "" })
		if r.Kind == api.RecordChild {
			change(func(r *api.Record) { r.Other = "" })
			change(func(r *api.Record) { r.Day = 1 })
		} else {
			change(func(r *api.Record) { r.Other = "ann" })
		}
		if r.Kind == api.RecordHolds || r.Kind == api.RecordGrant {
			change(func(r *api.Record) { r.Place = "" })
		} else {
			change(func(r *api.Record) { r.Place = "p" })
		}
		if r.Kind != api.RecordGrant {
			change(func(r *api.Record) { r.Until = api.MaxDay })
			change(func(r *api.Record) { r.Until = 1 })
		}
		if r.Kind != api.RecordHolds {
			change(func(r *api.Record) { r.Share = share })
			change(func(r *api.Record) { r.Share = frac(0, 1) })
			change(func(r *api.Record) { r.Share = frac(1, 0) })
			continue
		}
		change(func(r *api.Record) { r.Share = api.Frac{} })
		for _, n := range extremes {
			change(func(r *api.Record) { r.Share = frac(n, 1) })
			change(func(r *api.Record) { r.Share = frac(1, n) })
			change(func(r *api.Record) { r.Share = frac(n, n) })
			change(func(r *api.Record) { r.Share = frac(n, 0) })
		}
	}
	wrongRecord(t, granted("ann", "p", 5, 5), api.ErrOrder)
	wrongRecord(t, granted("ann", "p", 5, 4), api.ErrOrder)
	wrongRecord(t, granted("ann", "p", 0, 0), api.ErrOrder)
	wrongRecord(t, granted("ann", "", 5, 4), api.ErrForm)
	wrongRecord(t, granted("ann", "p", api.MaxDay, api.MaxDay), api.ErrOrder)
}
