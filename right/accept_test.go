package right_test

import (
	"slices"
	"testing"

	"mortsafe/api"
	"mortsafe/right"
)

// P5.2: Next returns the rights with one more deed; Replay counts the deeds.
func TestNext(t *testing.T) {
	r := api.Rights{Laws: twoLaws()}
	all := rights(
		child(0, "ann", "bob"), marriage(0, "ann", "dan"), family(100, "a1", "ann"), will(100, "ann", part("fay", 1, 2)),
		renounce(101, "dan", "ann"), grant(101, "a2", api.ClassTerm, 5, part("dan", 1, 1)), renewal(102, "a2", 3), death(200, "ann"),
		transfer(201, "a1", "bob", part("gus", 1, 3)), surrender(202, "a1", "fay"), surrender(202, "a2", "dan"),
	)
	for i, d := range all.Deeds {
		longer, e := right.Next(r, d)
		want := api.Rights{Laws: all.Laws, Deeds: all.Deeds[:i+1]}
		if !equal(longer, want) || e != api.OK {
			t.Fatal(i, longer, e)
		}
		if n, e := right.Replay(longer); n != i+1 || e != api.OK {
			t.Fatal(i, n, e)
		}
		r = longer
	}
	held(t, r, "a1", 202, part("bob", 2, 3), part("gus", 1, 3))
	held(t, r, "a2", 202)
	if n, e := right.Replay(api.Rights{}); n != 0 || e != api.OK {
		t.Error(n, e)
	}
}

// P5.2: the errors of the rights come before those of the deed, those of CheckDeed
// before those of acceptance.
func TestOrderOfErrorsOfNext(t *testing.T) {
	wrongLaws := api.Rights{Laws: []api.Law{law(-1, false, 1, 2)}, Deeds: deeds(death(5, "a"), death(4, "b"))}
	wrongDeed := rights(death(5, "a"), death(5, "b"), death(4, "c"), api.Deed{Kind: 9})
	tests := []struct {
		r    api.Rights
		n    int
		d    api.Deed
		want api.Errno
	}{
		{wrongLaws, 0, api.Deed{Kind: 9}, api.ErrRange},
		{wrongLaws, 0, death(9, "c"), api.ErrRange},
		{wrongDeed, 2, api.Deed{Kind: 9}, api.ErrOrder},
		{wrongDeed, 2, death(9, "d"), api.ErrOrder},
		{rights(death(5, "a"), death(5, "a")), 1, api.Deed{Kind: 9}, api.ErrState},
		{rights(death(5, "")), 0, death(5, "a"), api.ErrForm},
	}
	for _, x := range tests {
		if n, e := right.Replay(x.r); n != x.n || e != x.want {
			t.Error(x.r, n, e)
		}
		if r, e := right.Next(x.r, x.d); !equal(r, api.Rights{}) || e != x.want {
			t.Error(x.r, r, e)
		}
	}
	r := rights(death(5, "a"), family(10, "p", "b"))
	refuse(t, r, api.Deed{Kind: 9, Day: -1}, api.ErrKind)
	refuse(t, r, death(-1, "a"), api.ErrRange)
	refuse(t, r, death(4, "?"), api.ErrName)
	refuse(t, r, death(4, ""), api.ErrForm)
	refuse(t, r, death(9, "a"), api.ErrOrder)
	refuse(t, r, death(0, "c"), api.ErrOrder)
	refuse(t, r, death(10, "a"), api.ErrState)
	accept(t, r, death(10, "c"))
}

// P5.2: there are at most 60 deeds; a wrong 61st one tells its own error.
func TestMostDeeds(t *testing.T) {
	wills := repeat(60, func(i int) api.Deed { return will(i, "ann", part("bob", 1, 2)) })
	accept(t, rights(wills[:59]...), death(59, "ann"))
	refuse(t, rights(wills...), death(60, "ann"), api.ErrLarge)
	refuse(t, rights(wills...), death(1, "ann"), api.ErrLarge)
	refuse(t, rights(wills...), death(-1, "ann"), api.ErrRange)
	refuse(t, rights(wills...), death(60, ""), api.ErrForm)
	more := rights(with(wills, repeat(40, func(int) api.Deed { return death(0, "ann") })...)...)
	if n, e := right.Replay(more); n != 60 || e != api.ErrLarge {
		t.Error(n, e)
	}
	more.Deeds[20] = death(5, "")
	if n, e := right.Replay(more); n != 20 || e != api.ErrForm {
		t.Error(n, e)
	}
}

// P5.2: a place is granted as long as no right is in force; not to the dead, and not for
// longer than there are days.
func TestGrants(t *testing.T) {
	r := rights(death(0, "ann"), grant(100, "p", api.ClassTerm, 1, part("bob", 1, 1)), family(100, "q", "bob"), surrender(200, "q", "bob"))
	refuse(t, r, family(200, "p", "cat"), api.ErrClash)
	refuse(t, r, family(464, "p", "cat"), api.ErrClash)
	accept(t, r, family(465, "p", "cat")) // the day of the end: 365 days behind day 100
	accept(t, r, family(200, "q", "bob"))
	accept(t, r, family(200, "o", "bob"))
	refuse(t, r, grant(200, "o", 0, 0, part("bob", 1, 2), part("ann", 1, 2)), api.ErrState)
	refuse(t, r, grant(200, "o", 0, 0, part("ann", 1, 2), part("bob", 1, 2)), api.ErrState)
	refuse(t, r, grant(200, "p", api.ClassTerm, 99, part("ann", 1, 1)), api.ErrClash)
	refuse(t, r, grant(199990, "q", api.ClassTerm, 99, part("ann", 1, 1)), api.ErrState)
	refuse(t, r, grant(199990, "q", api.ClassTerm, 99, part("bob", 1, 1)), api.ErrRange)
	accept(t, r, grant(199990, "q", api.ClassPerpetual, 0, part("bob", 1, 1)))
	accept(t, r, grant(api.MaxDay, "q", api.ClassPerpetual, 0, part("bob", 1, 1)))
	refuse(t, r, grant(199990, "p", api.ClassTerm, 99, part("bob", 1, 1)), api.ErrRange)
	// one year has 365 days here, so that the last day that an end may have is day 200000
	accept(t, r, grant(api.MaxDay-365, "p", api.ClassTerm, 1, part("bob", 1, 1)))
	refuse(t, r, grant(api.MaxDay-364, "p", api.ClassTerm, 1, part("bob", 1, 1)), api.ErrRange)
	twice := behind(t, r, family(465, "p", "cat"))
	refuse(t, twice, family(465, "p", "cat"), api.ErrClash)
}

// P5.2: holders of rights that are not common transfer to the living.
func TestTransferErrors(t *testing.T) {
	r := rights(
		death(0, "ann"), grant(10, "p", api.ClassTerm, 1, part("bob", 1, 2), part("cat", 1, 2)), grant(10, "c", api.ClassCommon, 1, part("bob", 1, 1)),
		family(10, "q", "bob"), surrender(20, "q", "bob"),
	)
	for _, place := range []string{"o", "q"} {
		refuse(t, r, transfer(20, place, "bob", part("cat", 1, 2)), api.ErrMissing)
		refuse(t, r, transfer(20, place, "dan", part("ann", 1, 2)), api.ErrMissing)
	}
	refuse(t, r, transfer(375, "c", "dan", part("ann", 1, 2)), api.ErrMissing)
	refuse(t, r, transfer(375, "p", "bob", part("dan", 1, 2)), api.ErrMissing)
	accept(t, r, transfer(374, "p", "bob", part("dan", 1, 2)))
	refuse(t, r, transfer(20, "c", "dan", part("ann", 1, 2)), api.ErrKind)
	refuse(t, r, transfer(20, "c", "bob", part("cat", 1, 2)), api.ErrKind)
	refuse(t, r, transfer(20, "p", "dan", part("cat", 1, 2)), api.ErrRight)
	refuse(t, r, transfer(20, "p", "dan", part("ann", 1, 2)), api.ErrRight)
	refuse(t, r, transfer(20, "p", "ann", part("cat", 1, 2)), api.ErrRight)
	refuse(t, r, transfer(20, "p", "bob", part("ann", 1, 2)), api.ErrState)
	refuse(t, r, transfer(20, "p", "bob", part("dan", 1, 2), part("ann", 1, 4)), api.ErrState)
	gone := behind(t, r, transfer(20, "p", "bob", part("cat", 1, 1)))
	refuse(t, gone, transfer(20, "p", "bob", part("cat", 1, 1)), api.ErrRight)
	for class := range api.ClassCommon {
		accept(t, rights(grant(0, "p", class, 5, part("bob", 1, 1))), transfer(1, "p", "bob", part("cat", 1, 2)))
	}
}

// P5.2: holders surrender rights in force.
func TestSurrenderErrors(t *testing.T) {
	r := rights(grant(10, "p", api.ClassTerm, 1, part("bob", 1, 2), part("cat", 1, 2)), grant(10, "c", api.ClassCommon, 1, part("bob", 1, 1)))
	refuse(t, r, surrender(20, "q", "bob"), api.ErrMissing)
	refuse(t, r, surrender(20, "q", "dan"), api.ErrMissing)
	refuse(t, r, surrender(375, "p", "bob"), api.ErrMissing)
	refuse(t, r, surrender(20, "p", "dan"), api.ErrRight)
	accept(t, r, surrender(20, "p", "bob"))
	accept(t, r, surrender(374, "p", "bob"))
	accept(t, r, surrender(20, "c", "bob"))
	r = behind(t, r, surrender(20, "p", "bob"))
	refuse(t, r, surrender(20, "p", "bob"), api.ErrRight)
	r = behind(t, r, surrender(20, "p", "cat"))
	refuse(t, r, surrender(20, "p", "cat"), api.ErrMissing)
}

// P5.2: rights in force that have an end are renewed, also several times.
func TestRenewalErrors(t *testing.T) {
	r := rights(grant(10, "p", api.ClassTerm, 1, part("bob", 1, 1)), family(10, "q", "bob"))
	refuse(t, r, renewal(10, "o", 1), api.ErrMissing)
	refuse(t, r, renewal(10, "q", 1), api.ErrKind)
	refuse(t, r, renewal(375, "p", 1), api.ErrMissing)
	accept(t, r, renewal(374, "p", 1))
	r = behind(t, r, repeat(5, func(int) api.Deed { return renewal(10, "p", 99) })...)
	if n, e := right.Ends(r, "p", 10); n >= api.MaxDay || e != api.OK {
		t.Fatal(n, e)
	}
	refuse(t, r, renewal(10, "p", 99), api.ErrRange)
	accept(t, r, renewal(10, "p", 1))
	near := rights(grant(api.MaxDay-365-365, "p", api.ClassTerm, 1, part("bob", 1, 1)))
	longest := behind(t, near, renewal(api.MaxDay-366, "p", 1))
	refuse(t, longest, renewal(api.MaxDay-366, "p", 1), api.ErrRange)
	nearer := rights(grant(api.MaxDay-365-364, "p", api.ClassTerm, 1, part("bob", 1, 1)))
	refuse(t, nearer, renewal(api.MaxDay-366, "p", 1), api.ErrRange)
}

// P5.2: wills, renunciations and deaths are those of the living.
func TestErrorsOfTheDead(t *testing.T) {
	r := rights(death(5, "ann"), renounce(5, "bob", "cat"))
	refuse(t, r, will(5, "ann", part("bob", 1, 1)), api.ErrState)
	accept(t, r, will(5, "bob", part("ann", 1, 1)))
	refuse(t, r, renounce(5, "ann", "bob"), api.ErrState)
	refuse(t, r, renounce(5, "bob", "ann"), api.ErrState)
	refuse(t, r, renounce(5, "bob", "cat"), api.ErrExists)
	accept(t, r, renounce(5, "cat", "bob"))
	accept(t, r, renounce(5, "bob", "dan"))
	accept(t, r, renounce(5, "dan", "cat"))
	refuse(t, behind(t, r, death(6, "cat")), renounce(6, "bob", "cat"), api.ErrState)
	refuse(t, behind(t, r, death(6, "bob")), renounce(6, "bob", "cat"), api.ErrState)
	refuse(t, r, death(5, "ann"), api.ErrState)
	refuse(t, r, death(9, "ann"), api.ErrState)
	accept(t, r, death(5, "bob"))
}

// P5.2: a person has a parent once, at most two of them, and is no ancestor of itself;
// also the dead are parents and children.
func TestErrorsOfChildren(t *testing.T) {
	r := rights(child(0, "ann", "bob"), child(0, "bob", "cat"), child(0, "dan", "bob"), child(0, "cat", "eve"), death(0, "fay"))
	refuse(t, r, child(0, "ann", "bob"), api.ErrExists)
	refuse(t, r, child(0, "dan", "bob"), api.ErrExists)
	refuse(t, r, child(0, "gus", "bob"), api.ErrFull)
	refuse(t, r, child(0, "cat", "bob"), api.ErrFull)
	refuse(t, r, child(0, "bob", "ann"), api.ErrCycle)
	refuse(t, r, child(0, "cat", "ann"), api.ErrCycle)
	refuse(t, r, child(0, "eve", "dan"), api.ErrCycle)
	accept(t, r, child(0, "ann", "cat"))
	accept(t, r, child(0, "dan", "ann"))
	accept(t, r, child(0, "gus", "cat"))
	accept(t, r, child(0, "fay", "ann"))
	accept(t, r, child(0, "ann", "fay"))
	full := behind(t, r, child(0, "gus", "cat"))
	refuse(t, full, child(0, "bob", "cat"), api.ErrExists)
	refuse(t, full, child(0, "hal", "cat"), api.ErrFull)
	refuse(t, full, child(0, "eve", "cat"), api.ErrFull)
}

// P5.2: people marry who are living and have no living spouses.
func TestErrorsOfMarriages(t *testing.T) {
	r := rights(marriage(0, "ann", "bob"), death(0, "fay"))
	for _, d := range deeds(marriage(0, "ann", "bob"), marriage(0, "bob", "ann"), marriage(0, "ann", "cat"), marriage(0, "cat", "ann"), marriage(0, "bob", "cat"), marriage(0, "cat", "bob")) {
		refuse(t, r, d, api.ErrClash)
	}
	refuse(t, r, marriage(0, "fay", "cat"), api.ErrState)
	refuse(t, r, marriage(0, "cat", "fay"), api.ErrState)
	refuse(t, r, marriage(0, "ann", "fay"), api.ErrState)
	refuse(t, r, marriage(0, "fay", "ann"), api.ErrState)
	accept(t, r, marriage(0, "cat", "dan"))
	widowed := behind(t, r, death(5, "bob"))
	refuse(t, widowed, marriage(5, "cat", "bob"), api.ErrState)
	accept(t, widowed, marriage(5, "cat", "ann"))
	again := behind(t, widowed, marriage(5, "cat", "ann"))
	refuse(t, again, marriage(5, "dan", "ann"), api.ErrClash)
	refuse(t, again, marriage(5, "cat", "dan"), api.ErrClash)
	accept(t, behind(t, again, death(6, "cat")), marriage(6, "dan", "ann"))
}

// sixteenths are transfers of 1/16 of what a person has by then, to others; what stays
// has the denominators 16, 16*16 and so on.
func sixteenths(n int) []api.Deed {
	return repeat(n, func(i int) api.Deed { return transfer(0, "p", "ann", part(numbered("b", i), 1, 16)) })
}

// P5.2: what stays behind a transfer, and each part, may have a denominator of 1000000000,
// not more.
func TestFineTransfers(t *testing.T) {
	start := family(0, "p", "ann")
	r := rights(with(deeds(start), sixteenths(7)...)...)
	if f, e := right.Share(r, "p", "ann", 0); f != frac(15*15*15*15*15*15*15, 1<<28) || e != api.OK {
		t.Fatal(f, e)
	}
	refuse(t, r, transfer(0, "p", "ann", part("c", 1, 16)), api.ErrLarge)
	refuse(t, r, transfer(0, "p", "ann", part("c", 1, 2), part("d", 1, 4)), api.ErrLarge)
	accept(t, r, transfer(0, "p", "ann", part("c", 1, 2)))
	accept(t, r, transfer(0, "p", "ann", part("c", 1, 1)))
	accept(t, r, transfer(0, "p", "ann", part("c", 1, 3)))
	accept(t, r, transfer(0, "p", "ann", part("c", 1, 3), part("d", 2, 3)))
	// the parts are too fine, but not what stays, and the other way round
	refuse(t, r, transfer(0, "p", "ann", part("c", 1, 4), part("d", 3, 4)), api.ErrLarge)
	refuse(t, r, transfer(0, "p", "ann", part("c", 2, 3), part("d", 1, 16), part("e", 13, 48)), api.ErrForm)
	refuse(t, r, transfer(0, "p", "ann", part("c", 2, 3), part("d", 1, 7)), api.ErrLarge)
	// the number itself, with a denominator of 5^9 * 2^9
	tenths := repeat(9, func(i int) api.Deed { return transfer(0, "p", "ann", part("bob", 1, 10)) })
	exact := rights(with(deeds(start), tenths...)...)
	if f, e := right.Share(exact, "p", "ann", 0); f != frac(387420489, 1000000000) || e != api.OK {
		t.Fatal(f, e)
	}
	refuse(t, exact, transfer(0, "p", "ann", part("bob", 1, 10)), api.ErrLarge)
	refuse(t, exact, transfer(0, "p", "ann", part("bob", 1, 2)), api.ErrLarge)
	accept(t, exact, transfer(0, "p", "ann", part("bob", 1, 3)))
	accept(t, exact, transfer(0, "p", "ann", part("bob", 1, 1)))
}

// P5.2: also the sum with what a person has by then may not be too fine.
func TestFineSums(t *testing.T) {
	// ann gives away 1/11, 1/13 and so on of what it has: cat holds parts of several kinds
	r := rights(
		grant(0, "p", 0, 0, part("ann", 1, 2), part("cat", 1, 2)),
		transfer(0, "p", "cat", part("x1", 15, 16)), transfer(0, "p", "cat", part("x2", 12, 13)), transfer(0, "p", "cat", part("x3", 10, 11)),
		transfer(0, "p", "ann", part("x4", 6, 7)), transfer(0, "p", "ann", part("x5", 14, 15)), transfer(0, "p", "ann", part("x6", 8, 9)), transfer(0, "p", "ann", part("x7", 12, 13)),
	)
	for _, x := range []struct {
		name string
		want api.Frac
	}{{"cat", frac(1, 2*16*13*11)}, {"ann", frac(1, 2*7*15*9*13)}} {
		if f, e := right.Share(r, "p", x.name, 0); f != x.want || e != api.OK {
			t.Fatal(x.name, f, e)
		}
	}
	accept(t, r, transfer(0, "p", "ann", part("cat", 1, 1)))
	accept(t, r, transfer(0, "p", "ann", part("new", 1, 13)))
	accept(t, r, transfer(0, "p", "cat", part("new", 1, 16)))
	finer := behind(t, r, transfer(0, "p", "cat", part("x8", 15, 16)), transfer(0, "p", "ann", part("x9", 8, 9)), transfer(0, "p", "ann", part("y1", 2, 3)))
	if f, e := right.Share(finer, "p", "ann", 0); f != frac(1, 2*7*15*9*13*27) || e != api.OK {
		t.Fatal(f, e)
	}
	accept(t, finer, transfer(0, "p", "ann", part("new", 1, 1)))
	refuse(t, finer, transfer(0, "p", "ann", part("cat", 1, 1)), api.ErrLarge)
	refuse(t, finer, transfer(0, "p", "ann", part("new", 1, 3), part("cat", 2, 3)), api.ErrLarge)
	refuse(t, finer, transfer(0, "p", "cat", part("ann", 1, 1)), api.ErrLarge)
}

// P5.2: the new shares behind a surrender may not be too fine.
func TestFineSurrenders(t *testing.T) {
	r := rights(with(deeds(family(0, "p", "ann")), with(sixteenths(7), transfer(0, "p", "b0", part("c", 1, 13)))...)...)
	if n, e := right.Replay(r); n != len(r.Deeds) || e != api.OK {
		t.Fatal(n, e)
	}
	l, e := right.Holders(r, "p", 0)
	if len(l) != 9 || e != api.OK {
		t.Fatal(l, e)
	}
	for _, p := range l {
		if want := modelSurrender(l, p.Name); want == nil {
			refuse(t, r, surrender(0, "p", p.Name), api.ErrLarge)
		} else {
			held(t, behind(t, r, surrender(0, "p", p.Name)), "p", 0, want...)
		}
	}
	isFine := func(p api.Part) bool { return modelSurrender(l, p.Name) == nil }
	if some := slices.DeleteFunc(slices.Clone(l), isFine); len(some) == 0 || len(some) == len(l) {
		t.Error(some)
	}
}
