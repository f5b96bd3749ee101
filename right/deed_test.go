package right_test

import (
	"testing"

	"mortsafe/api"
	"mortsafe/right"
)

// eighths are parts of 1/8 each.
func eighths(n int) []api.Part {
	return repeat(n, func(i int) api.Part { return part(numbered("p", i), 1, 8) })
}

// rightDeeds are deeds without an error, of all kinds.
func rightDeeds() []api.Deed {
	return deeds(
		family(100, "a1", "ann"),
		grant(0, "a1", api.ClassExclusive, 0, part("ann", 1, 2), part("bob", 1, 2)),
		grant(api.MaxDay, "A-9-z", api.ClassExclusive, 99, eighths(8)...),
		grant(5, "a1", api.ClassTerm, 1, part("ann", 1, 3), part("bob", 1, 6), part("cat", 1, 2)),
		grant(5, "a1", api.ClassTerm, 99, part("ann", 1, 16), part("bob", 15, 16)),
		grant(5, "a1", api.ClassPerpetual, 0, part("ann", 2, 13), part("bob", 11, 13)),
		grant(5, "a1", api.ClassPerpetual, 10, part("ann", 1, 1)),
		grant(5, "a1", api.ClassCommon, 0, part("ann", 1, 1)),
		grant(5, "a1", api.ClassCommon, 50, part("a1", 1, 1)),
		transfer(5, "a1", "ann", part("bob", 1, 1)),
		transfer(5, "a1", "ann", part("bob", 1, 16)),
		transfer(5, "a1", "ann", part("bob", 1, 2), part("cat", 1, 2)),
		transfer(0, "a1", "a1", part("bob", 1, 2), part("cat", 1, 3), part("dan", 1, 7)),
		transfer(5, "a1", "ann", eighths(8)...),
		surrender(5, "a1", "ann"),
		surrender(api.MaxDay, "abcdefghijkl", "abcdefghijkl"),
		renewal(5, "a1", 1),
		renewal(5, "a1", 99),
		will(5, "ann", part("bob", 1, 1)),
		will(5, "ann", part("bob", 1, 16)),
		will(5, "ann", eighths(8)...),
		will(5, "ann", part("bob", 1, 2), part("cat", 1, 3), part("dan", 1, 6)),
		renounce(5, "ann", "bob"),
		child(5, "ann", "bob"),
		marriage(5, "ann", "bob"),
		death(0, "ann"),
		death(api.MaxDay, "ann"),
	)
}

// P5.2: deeds of all kinds are right.
func TestRightDeeds(t *testing.T) {
	for _, d := range rightDeeds() {
		if e := right.CheckDeed(d); e != api.OK {
			t.Error(d, e)
		}
		for _, name := range rightNames {
			if d.Place != "" {
				d.Place = name
			}
			if d.From != "" {
				d.From = name
			}
			if e := right.CheckDeed(d); e != api.OK {
				t.Error(d, e)
			}
		}
	}
}

// changed returns each right deed with a change.
func changed(change func(d *api.Deed)) []api.Deed {
	l := rightDeeds()
	for i := range l {
		change(&l[i])
	}
	return l
}

// mostWrong has all errors at once; of those that are taken away, the first ones are told.
func mostWrong(day, class, years, parts int, place, from, to string) api.Deed {
	return api.Deed{Day: day, Class: class, Years: years, Place: place, From: from, To: repeat(parts, always(part(to, 7, 7)))}
}

// P5.2: CheckDeed tells the errors of a deed in their order.
func TestOrderOfErrorsOfDeeds(t *testing.T) {
	for kind := range 9 {
		tests := []struct {
			d    api.Deed
			want api.Errno
		}{
			{mostWrong(-1, 0, 0, 9, "?", "a", "a"), api.ErrRange},
			{mostWrong(0, 5, 0, 9, "?", "a", "a"), api.ErrRange},
			{mostWrong(0, 0, 100, 9, "?", "a", "a"), api.ErrRange},
			{mostWrong(0, 4, 99, 9, "?", "a", "a"), api.ErrLarge},
			{mostWrong(0, 4, 99, 9, "a", "a", "?"), api.ErrLarge},
			{mostWrong(0, 4, 99, 8, "?", "a", "a"), api.ErrName},
			{mostWrong(0, 4, 99, 8, "a", "?", "a"), api.ErrName},
			{mostWrong(0, 4, 99, 8, "a", "a", "?"), api.ErrName},
			{mostWrong(0, 4, 99, 8, "a", "a", ""), api.ErrName},
			{mostWrong(0, 4, 99, 8, "a", "a", "a"), api.ErrForm},
			{mostWrong(0, 4, 99, 0, "", "", ""), api.ErrForm},
		}
		for _, x := range tests {
			x.d.Kind = kind
			if e := right.CheckDeed(x.d); e != x.want {
				t.Error(x.d, e)
			}
			for _, wrong := range with(extremes, 9) {
				x.d.Kind = wrong
				if e := right.CheckDeed(x.d); e != api.ErrKind {
					t.Error(x.d, e)
				}
			}
		}
	}
}

// P5.2: numbers that are out of range are told for all kinds, also where there are none.
func TestRangesOfDeeds(t *testing.T) {
	for _, n := range extremes {
		for _, d := range changed(func(d *api.Deed) { d.Kind = n }) {
			if e := right.CheckDeed(d); e != api.ErrKind {
				t.Error(d, e)
			}
		}
	}
	for _, n := range with(extremes, 200001) {
		for _, d := range changed(func(d *api.Deed) { d.Day = n }) {
			if e := right.CheckDeed(d); e != api.ErrRange {
				t.Error(d, e)
			}
		}
	}
	for _, n := range with(extremes, 5) {
		for _, d := range changed(func(d *api.Deed) { d.Class = n }) {
			if e := right.CheckDeed(d); e != api.ErrRange {
				t.Error(d, e)
			}
		}
	}
	for _, n := range with(extremes, 100) {
		for _, d := range changed(func(d *api.Deed) { d.Years = n }) {
			if e := right.CheckDeed(d); e != api.ErrRange {
				t.Error(d, e)
			}
		}
	}
}

// P5.2: there are at most 8 parts, and each one has a name.
func TestPartsOfDeeds(t *testing.T) {
	for _, d := range changed(func(d *api.Deed) { d.To = eighths(9) }) {
		if e := right.CheckDeed(d); e != api.ErrLarge {
			t.Error(d, e)
		}
	}
	for _, name := range with(wrongNames, "") {
		for _, d := range changed(func(d *api.Deed) { d.To = with(d.To[:min(7, len(d.To))], part(name, 1, 1)) }) {
			if e := right.CheckDeed(d); e != api.ErrName {
				t.Error(d, e)
			}
		}
	}
	for _, name := range wrongNames {
		for _, d := range changed(func(d *api.Deed) { d.Place = name }) {
			if e := right.CheckDeed(d); e != api.ErrName {
				t.Error(d, e)
			}
		}
		for _, d := range changed(func(d *api.Deed) { d.From = name }) {
			if e := right.CheckDeed(d); e != api.ErrName {
				t.Error(d, e)
			}
		}
	}
}

// bare is a part without a share.
func bare(name string) api.Part { return api.Part{Name: name} }

// wrongRightForms are deeds of rights whose fields are not those of their kinds.
func wrongRightForms() []api.Deed {
	a, b, c := part("a", 1, 2), part("b", 1, 2), part("c", 1, 2)
	return deeds(
		grant(0, "", 0, 0, part("a", 1, 1)),
		grant(0, "p", 0, 0),
		grant(0, "p", 0, 0, a),
		grant(0, "p", 0, 0, a, b, c),
		grant(0, "p", 0, 0, a, part("b", 1, 3)),
		grant(0, "p", 0, 0, a, a),
		grant(0, "p", 0, 0, part("a", 0, 1), part("b", 1, 1)),
		grant(0, "p", 0, 0, part("a", 1, 1), bare("b")),
		grant(0, "p", 0, 0, part("a", 2, 4), b),
		grant(0, "p", 0, 0, part("a", 1, 17), part("b", 16, 17)),
		grant(0, "p", 0, 0, part("a", 2, 1), part("b", -1, 1)),
		grant(0, "p", 0, 0, part("a", -1, -1)),
		grant(0, "p", 0, 0, part("a", 2, 2)),
		grant(0, "p", 0, 0, bare("a")),
		grant(0, "p", api.ClassTerm, 0, part("a", 1, 1)),
		api.Deed{Kind: api.DeedGrant, Place: "p", From: "b", To: parts(part("a", 1, 1))},

		transfer(0, "", "x", a),
		transfer(0, "p", "", a),
		transfer(0, "p", "x"),
		transfer(0, "p", "x", a, b, c),
		transfer(0, "p", "x", a, part("b", 2, 3)),
		transfer(0, "p", "x", a, a),
		transfer(0, "p", "a", a),
		transfer(0, "p", "b", a, b),
		transfer(0, "p", "x", part("a", 0, 1)),
		transfer(0, "p", "x", part("a", 0, 1), b),
		transfer(0, "p", "x", bare("a")),
		transfer(0, "p", "x", part("a", 3, 2)),
		transfer(0, "p", "x", part("a", 1, 17)),
		transfer(0, "p", "x", part("a", 2, 6)),
		transfer(0, "p", "x", part("a", -1, 2)),
		api.Deed{Kind: api.DeedTransfer, Place: "p", From: "x", To: parts(a), Class: 1},
		api.Deed{Kind: api.DeedTransfer, Place: "p", From: "x", To: parts(a), Years: 1},

		surrender(0, "", "x"),
		surrender(0, "p", ""),
		api.Deed{Kind: api.DeedSurrender, Place: "p", From: "x", To: parts(a)},
		api.Deed{Kind: api.DeedSurrender, Place: "p", From: "x", To: parts(bare("a"))},
		api.Deed{Kind: api.DeedSurrender, Place: "p", From: "x", Class: 1},
		api.Deed{Kind: api.DeedSurrender, Place: "p", From: "x", Years: 1},

		renewal(0, "", 1),
		renewal(0, "p", 0),
		api.Deed{Kind: api.DeedRenewal, Place: "p", From: "x", Years: 1},
		api.Deed{Kind: api.DeedRenewal, Place: "p", Years: 1, Class: 1},
		api.Deed{Kind: api.DeedRenewal, Place: "p", Years: 1, To: parts(part("a", 1, 1))},
		api.Deed{Kind: api.DeedRenewal, Place: "p", Years: 1, To: parts(bare("a"))},
	)
}

// wrongForms are deeds of people whose fields are not those of their kinds.
func wrongForms() []api.Deed {
	a, b, c := part("a", 1, 2), part("b", 1, 2), part("c", 1, 2)
	of := func(kind int, from string, to ...api.Part) api.Deed { return api.Deed{Kind: kind, From: from, To: to} }
	return deeds(
		of(api.DeedWill, "x"),
		of(api.DeedWill, "", a),
		of(api.DeedWill, "x", a, b, c),
		of(api.DeedWill, "x", a, a),
		of(api.DeedWill, "a", a, b),
		of(api.DeedWill, "x", part("a", 0, 1)),
		of(api.DeedWill, "x", bare("a")),
		of(api.DeedWill, "x", part("a", 4, 3)),
		of(api.DeedWill, "x", part("a", 3, 17)),
		of(api.DeedWill, "x", part("a", 3, 9)),
		api.Deed{Kind: api.DeedWill, Place: "p", From: "x", To: parts(a)},
		api.Deed{Kind: api.DeedWill, From: "x", To: parts(a), Class: 1},
		api.Deed{Kind: api.DeedWill, From: "x", To: parts(a), Years: 1},

		of(api.DeedDeath, ""),
		of(api.DeedDeath, "x", a),
		of(api.DeedDeath, "x", bare("a")),
		api.Deed{Kind: api.DeedDeath, Place: "p", From: "x"},
		api.Deed{Kind: api.DeedDeath, From: "x", Class: 1},
		api.Deed{Kind: api.DeedDeath, From: "x", Years: 1},
	)
}

// P5.2: deeds whose fields are not those of their kinds are ErrForm.
func TestFormsOfDeeds(t *testing.T) {
	for _, d := range with(wrongRightForms(), wrongForms()...) {
		if e := right.CheckDeed(d); e != api.ErrForm {
			t.Error(d, e)
		}
	}
	for _, kind := range []int{api.DeedRenounce, api.DeedChild, api.DeedMarriage} {
		plain := between(kind, 5, "x", "a")
		for _, change := range []func(d *api.Deed){
			func(d *api.Deed) { d.From = "" },
			func(d *api.Deed) { d.From = "a" },
			func(d *api.Deed) { d.Place = "p" },
			func(d *api.Deed) { d.Class = 1 },
			func(d *api.Deed) { d.Years = 1 },
			func(d *api.Deed) { d.To = nil },
			func(d *api.Deed) { d.To = with(d.To, api.Part{Name: "b"}) },
			func(d *api.Deed) { d.To = parts(part("a", 1, 1)) },
			func(d *api.Deed) { d.To = parts(part("a", 0, 1)) },
			func(d *api.Deed) { d.To = parts(part("a", 1, 0)) },
		} {
			d := plain
			change(&d)
			if e := right.CheckDeed(d); e != api.ErrForm {
				t.Error(d, e)
			}
		}
	}
	for _, kind := range []int{api.DeedGrant, api.DeedTransfer, api.DeedWill} {
		for _, n := range extremes {
			for _, f := range []api.Frac{frac(n, 1), frac(1, n), frac(n, n), frac(0, n), frac(n, 0)} {
				d := api.Deed{Kind: kind, To: parts(api.Part{Name: "a", Share: f})}
				if kind != api.DeedWill {
					d.Place = "p"
				}
				if kind != api.DeedGrant {
					d.From = "x"
				}
				if e := right.CheckDeed(d); e != api.ErrForm {
					t.Error(d, e)
				}
			}
		}
	}
}

// P5.2: sums of fractions are exact, also of 8 of them with different denominators.
func TestSumsOfDeeds(t *testing.T) {
	fine := parts(part("a", 1, 16), part("b", 1, 9), part("c", 1, 5), part("d", 1, 7), part("e", 1, 11), part("f", 1, 13))
	accepts := func(want bool, to ...api.Part) {
		t.Helper()
		if e := right.CheckDeed(will(0, "x", to...)); (e == api.OK) != want || !want && e != api.ErrForm {
			t.Error(to, e)
		}
	}
	accepts(true, with(fine, part("g", 1, 4))...)
	accepts(true, with(fine, part("g", 5, 16))...)
	accepts(false, with(fine, part("g", 1, 3))...)
	accepts(true, part("a", 1, 2), part("b", 1, 3), part("c", 1, 6))
	accepts(true, part("a", 1, 2), part("b", 1, 3), part("c", 2, 13))
	accepts(false, part("a", 1, 2), part("b", 1, 3), part("c", 1, 5))
	accepts(false, part("a", 8, 15), part("b", 7, 15), part("c", 1, 16))
	if e := right.CheckDeed(grant(0, "p", 0, 0, part("a", 8, 15), part("b", 7, 15))); e != api.OK {
		t.Error(e)
	}
	if e := right.CheckDeed(grant(0, "p", 0, 0, part("a", 8, 15), part("b", 6, 13))); e != api.ErrForm {
		t.Error(e)
	}
	sixths := grant(0, "p", 0, 0, part("a", 1, 3), part("b", 1, 4), part("c", 1, 5), part("d", 1, 6), part("e", 1, 12), part("f", -1, 3))
	if e := right.CheckDeed(sixths); e != api.ErrForm {
		t.Error(e)
	}
}
