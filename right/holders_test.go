package right_test

import (
	"slices"
	"testing"

	"mortsafe/api"
	"mortsafe/right"
)

// P5.3: the chapter's examples 1 and 2.
func TestExamplesOfDeaths(t *testing.T) {
	r := behind(t, example(), death(200, "ann"))
	held(t, r, "a1", 99)
	held(t, r, "a1", 100, part("ann", 1, 1))
	held(t, r, "a1", 199, part("ann", 1, 1))
	held(t, r, "a1", 200, part("bob", 3, 8), part("cat", 3, 8), part("dan", 1, 4))
	held(t, r, "a1", api.MaxDay, part("bob", 3, 8), part("cat", 3, 8), part("dan", 1, 4))
	held(t, r, "a2", 200)
	before := behind(t, example(), child(120, "bob", "eve"), death(150, "bob"))
	held(t, behind(t, before, death(200, "ann")), "a1", 200, part("cat", 3, 4), part("dan", 1, 4))
	held(t, behind(t, before, death(49999, "ann")), "a1", 49999, part("cat", 3, 4), part("dan", 1, 4))
	held(t, behind(t, before, death(50000, "ann")), "a1", 50000, part("cat", 1, 4), part("dan", 1, 2), part("eve", 1, 4))
	held(t, behind(t, before, death(50200, "ann")), "a1", 50200, part("cat", 1, 4), part("dan", 1, 2), part("eve", 1, 4))
	willed := behind(t, example(), will(110, "ann", part("fay", 1, 2)), death(200, "ann"))
	held(t, willed, "a1", 200, part("bob", 3, 16), part("cat", 3, 16), part("dan", 1, 8), part("fay", 1, 2))
}

// P5.3: the chapter's example 3; what is transferred adds up.
func TestTransfers(t *testing.T) {
	r := behind(t, example(), death(200, "ann"), transfer(210, "a1", "bob", part("gus", 1, 3)))
	held(t, r, "a1", 210, part("bob", 1, 4), part("cat", 3, 8), part("dan", 1, 4), part("gus", 1, 8))
	gone := behind(t, r, surrender(220, "a1", "dan"))
	held(t, gone, "a1", 220, part("bob", 1, 3), part("cat", 1, 2), part("gus", 1, 6))
	all := behind(t, gone, transfer(230, "a1", "cat", part("gus", 1, 3), part("bob", 1, 3), part("ida", 1, 3)))
	held(t, all, "a1", 230, part("bob", 1, 2), part("gus", 1, 3), part("ida", 1, 6))
	back := behind(t, all, transfer(230, "a1", "bob", part("cat", 1, 1)))
	held(t, back, "a1", 230, part("cat", 1, 2), part("gus", 1, 3), part("ida", 1, 6))
	one := behind(t, back, transfer(240, "a1", "gus", part("cat", 1, 1)), transfer(240, "a1", "ida", part("cat", 1, 1)))
	held(t, one, "a1", 240, part("cat", 1, 1))
	left := behind(t, one, surrender(250, "a1", "cat"))
	held(t, left, "a1", 249, part("cat", 1, 1))
	held(t, left, "a1", 250)
	held(t, behind(t, left, family(250, "a1", "hal")), "a1", 250, part("hal", 1, 1))
}

// P5.3: Share is the share that Holders tells, or 0.
func TestShare(t *testing.T) {
	r := behind(t, example(), death(200, "ann"), renewalEnd(300))
	tests := []struct {
		place, name string
		day         int
		want        api.Frac
	}{
		{"a1", "ann", 99, frac(0, 1)}, {"a1", "ann", 100, frac(1, 1)}, {"a1", "ann", 200, frac(0, 1)},
		{"a1", "bob", 199, frac(0, 1)}, {"a1", "bob", 200, frac(3, 8)}, {"a1", "dan", 200, frac(1, 4)}, {"a1", "zoe", 200, frac(0, 1)},
		{"b1", "bob", 200, frac(0, 1)}, {"t1", "bob", 300, frac(1, 1)}, {"t1", "bob", 664, frac(1, 1)}, {"t1", "bob", 665, frac(0, 1)}, {"t1", "ann", 300, frac(0, 1)},
	}
	for _, x := range tests {
		if f, e := right.Share(r, x.place, x.name, x.day); f != x.want || e != api.OK {
			t.Error(x, f, e)
		}
	}
}

// renewalEnd is the grant of a term right that ends 365 days later.
func renewalEnd(day int) api.Deed { return grant(day, "t1", api.ClassTerm, 1, part("bob", 1, 1)) }

// P5.3: Class and Ends are those of the right in force, the end as of the day.
func TestClassAndEnds(t *testing.T) {
	r := rights(
		grant(0, "p", api.ClassTerm, 2, part("hal", 1, 1)), renewal(10, "p", 1), renewal(10, "p", 2), grant(10, "q", api.ClassPerpetual, 0, part("hal", 1, 1)),
		grant(10, "c", api.ClassCommon, 3, part("hal", 1, 1)), grant(10, "x", api.ClassExclusive, 0, part("hal", 1, 1)), surrender(20, "x", "hal"),
		grant(1824, "c", api.ClassFamily, 1, part("ida", 1, 1)), grant(1826, "p", api.ClassExclusive, 0, part("ida", 1, 1)),
	)
	tests := []struct {
		place            string
		day, class, ends int
		want             api.Errno
	}{
		{"p", 0, api.ClassTerm, 730, api.OK}, {"p", 9, api.ClassTerm, 730, api.OK}, {"p", 10, api.ClassTerm, 1826, api.OK}, {"p", 1825, api.ClassTerm, 1826, api.OK},
		{"p", 1826, api.ClassExclusive, -1, api.OK}, {"p", api.MaxDay, api.ClassExclusive, -1, api.OK},
		{"q", 9, 0, 0, api.ErrNone}, {"q", 10, api.ClassPerpetual, -1, api.OK}, {"q", 5000, api.ClassPerpetual, -1, api.OK},
		{"c", 10, api.ClassCommon, 1105, api.OK}, {"c", 1104, api.ClassCommon, 1105, api.OK}, {"c", 1105, 0, 0, api.ErrNone}, {"c", 1823, 0, 0, api.ErrNone}, {"c", 1824, api.ClassFamily, 2189, api.OK},
		{"x", 10, api.ClassExclusive, -1, api.OK}, {"x", 19, api.ClassExclusive, -1, api.OK}, {"x", 20, 0, 0, api.ErrNone},
		{"o", 10, 0, 0, api.ErrNone},
	}
	for _, x := range tests {
		if n, e := right.Class(r, x.place, x.day); n != x.class || e != x.want {
			t.Error(x, n, e)
		}
		if n, e := right.Ends(r, x.place, x.day); n != x.ends || e != x.want {
			t.Error(x, n, e)
		}
	}
}

// P5.3: the end is so many months later as rule.AddMonths says, from end to end.
func TestEndsOfMonths(t *testing.T) {
	// day 1519 is 29 February 1804
	r := rights(grant(1519, "p", api.ClassTerm, 1, part("hal", 1, 1)), renewal(1519, "p", 3), grant(1519, "q", api.ClassTerm, 4, part("hal", 1, 1)))
	if n, e := right.Ends(api.Rights{Deeds: r.Deeds[:1]}, "p", 1519); n != 1519+365 || e != api.OK {
		t.Error(n, e)
	}
	if n, e := right.Ends(r, "p", 1519); n != 1519+4*365 || e != api.OK { // 28 February 1808
		t.Error(n, e)
	}
	if n, e := right.Ends(r, "q", 1519); n != 1519+4*365+1 || e != api.OK { // 29 February 1808
		t.Error(n, e)
	}
}

// P5.3: Held tells the places of a person, ascending.
func TestHeld(t *testing.T) {
	r := rights(
		family(0, "p2", "ann"), family(0, "p10", "ann"), grant(5, "P1", api.ClassTerm, 1, part("ann", 1, 2), part("bob", 1, 2)), family(5, "o", "bob"),
		transfer(10, "p2", "ann", part("bob", 1, 2)), transfer(20, "p2", "ann", part("bob", 1, 1)), surrender(30, "p10", "ann"), death(40, "ann"), grant(40, "p10", 0, 0, part("bob", 1, 1)),
	)
	tests := []struct {
		name string
		day  int
		want []string
	}{
		{"ann", 0, []string{"p10", "p2"}}, {"ann", 5, []string{"P1", "p10", "p2"}}, {"ann", 10, []string{"P1", "p10", "p2"}}, {"ann", 20, []string{"P1", "p10"}},
		{"ann", 30, []string{"P1"}}, {"ann", 40, nil}, {"bob", 0, nil}, {"bob", 5, []string{"P1", "o"}}, {"bob", 39, []string{"P1", "o", "p2"}},
		{"bob", 369, []string{"P1", "o", "p10", "p2"}}, {"bob", 370, []string{"o", "p10", "p2"}}, {"cat", 40, nil},
	}
	for _, x := range tests {
		if l, e := right.Held(r, x.name, x.day); !slices.Equal(l, x.want) || e != api.OK {
			t.Error(x, l, e)
		}
	}
}

func tenure(from int, holders ...api.Part) api.Tenure {
	return api.Tenure{From: from, Holders: holders}
}

// P5.3: Tenures tells each day on which the holders, or their shares, are others than the
// day before.
func TestTenures(t *testing.T) {
	ann, bob, half := part("ann", 1, 1), part("bob", 1, 1), []api.Part{part("ann", 1, 2), part("bob", 1, 2)}
	term := grant(10, "p", api.ClassTerm, 1, ann)
	tests := []struct {
		what string
		l    []api.Deed
		want []api.Tenure
	}{
		{"nothing", nil, nil},
		{"another place", deeds(family(0, "q", "ann")), nil},
		{"a grant", deeds(family(7, "p", "ann")), []api.Tenure{tenure(7, ann)}},
		{"a grant on the last day", deeds(family(api.MaxDay, "p", "ann")), []api.Tenure{tenure(api.MaxDay, ann)}},
		{"an end", deeds(term), []api.Tenure{tenure(10, ann), tenure(375)}},
		{"an end that was put off", deeds(term, renewal(374, "p", 1)), []api.Tenure{tenure(10, ann), tenure(740)}},
		{"an end that was put off twice", deeds(term, renewal(20, "p", 1), renewal(30, "p", 1)), []api.Tenure{tenure(10, ann), tenure(1105)}},
		{"granted again at once", deeds(term, family(375, "p", "ann")), []api.Tenure{tenure(10, ann)}},
		{"granted again to another at once", deeds(term, family(375, "p", "bob")), []api.Tenure{tenure(10, ann), tenure(375, bob)}},
		{"granted again later", deeds(term, family(376, "p", "ann")), []api.Tenure{tenure(10, ann), tenure(375), tenure(376, ann)}},
		{"surrendered", deeds(family(7, "p", "ann"), surrender(9, "p", "ann")), []api.Tenure{tenure(7, ann), tenure(9)}},
		{"surrendered at once", deeds(family(7, "p", "ann"), surrender(7, "p", "ann")), nil},
		{"surrendered before its end", deeds(term, surrender(20, "p", "ann")), []api.Tenure{tenure(10, ann), tenure(20)}},
		{"surrendered and granted again before its end", deeds(term, surrender(20, "p", "ann"), family(20, "p", "bob")), []api.Tenure{tenure(10, ann), tenure(20, bob)}},
		{"surrendered and granted again", deeds(family(7, "p", "ann"), surrender(9, "p", "ann"), family(9, "p", "ann")), []api.Tenure{tenure(7, ann)}},
		{"other shares of the same holders", deeds(grant(7, "p", 0, 0, half...), transfer(9, "p", "ann", part("bob", 1, 2))), []api.Tenure{tenure(7, half...), tenure(9, part("ann", 1, 4), part("bob", 3, 4))}},
		{"there and back on a day", deeds(family(7, "p", "ann"), transfer(9, "p", "ann", bob), transfer(9, "p", "bob", ann)), []api.Tenure{tenure(7, ann)}},
		{"several on a day", deeds(family(7, "p", "ann"), transfer(9, "p", "ann", part("bob", 1, 2)), transfer(9, "p", "ann", bob)), []api.Tenure{tenure(7, ann), tenure(9, bob)}},
		{"others' deeds", deeds(family(7, "p", "ann"), death(8, "bob"), family(9, "q", "cat"), will(9, "ann", bob)), []api.Tenure{tenure(7, ann)}},
		{"a death", deeds(family(7, "p", "ann"), marriage(7, "ann", "bob"), death(8, "ann")), []api.Tenure{tenure(7, ann), tenure(8, bob)}},
		{"unknown heirs", deeds(family(7, "p", "ann"), death(8, "ann")), []api.Tenure{tenure(7, ann), tenure(8, part("", 1, 1))}},
	}
	for _, x := range tests {
		if l, e := right.Tenures(rights(x.l...), "p"); !equal(l, x.want) || e != api.OK {
			t.Error(x.what, l, e)
		}
	}
	r := behind(t, example(), death(200, "ann"), transfer(210, "a1", "bob", part("gus", 1, 3)), surrender(220, "a1", "dan"))
	l, e := right.Tenures(r, "a1")
	from := func(i int) int { return l[i].From }
	if !slices.Equal(repeat(len(l), from), []int{100, 200, 210, 220}) || e != api.OK {
		t.Error(l, e)
	}
}

// asked is what a function with rights, and with a place, a name, a day, returned.
type asked struct {
	what      string
	place     bool // whether it has a place, a name, a day
	name, day bool
	ask       func(r api.Rights, place, name string, day int) (any, api.Errno)
}

// allAsked is all functions that ask about rights.
func allAsked() []asked {
	type of = func(r api.Rights, place, name string, day int) (any, api.Errno)
	return []asked{
		{"Holders", true, false, true, of(func(r api.Rights, p, n string, d int) (any, api.Errno) { return two(right.Holders(r, p, d)) })},
		{"Share", true, true, true, of(func(r api.Rights, p, n string, d int) (any, api.Errno) { return two(right.Share(r, p, n, d)) })},
		{"Class", true, false, true, of(func(r api.Rights, p, n string, d int) (any, api.Errno) { return two(right.Class(r, p, d)) })},
		{"Ends", true, false, true, of(func(r api.Rights, p, n string, d int) (any, api.Errno) { return two(right.Ends(r, p, d)) })},
		{"Tenures", true, false, false, of(func(r api.Rights, p, n string, d int) (any, api.Errno) { return two(right.Tenures(r, p)) })},
		{"Held", false, true, true, of(func(r api.Rights, p, n string, d int) (any, api.Errno) { return two(right.Held(r, n, d)) })},
		{"Alive", false, true, true, of(func(r api.Rights, p, n string, d int) (any, api.Errno) { return two(right.Alive(r, n, d)) })},
		{"Spouse", false, true, true, of(func(r api.Rights, p, n string, d int) (any, api.Errno) { return two(right.Spouse(r, n, d)) })},
		{"Descendants", false, true, true, of(func(r api.Rights, p, n string, d int) (any, api.Errno) { return two(right.Descendants(r, n, d)) })},
		{"Estate", false, true, true, of(func(r api.Rights, p, n string, d int) (any, api.Errno) { return two(right.Estate(r, n, d)) })},
		{"MayBury", true, true, true, of(func(r api.Rights, p, n string, d int) (any, api.Errno) { return two(right.MayBury(r, p, n, d)) })},
		{"Majority", true, false, true, of(func(r api.Rights, p, n string, d int) (any, api.Errno) { return two(right.Majority(r, p, d)) })},
	}
}

func two[T any](result T, e api.Errno) (any, api.Errno) { return result, e }

// P5.3 to P5.5: the errors of rights come first, then those of names, then that of the day.
func TestErrorsOfQuestions(t *testing.T) {
	wrong := rights(family(5, "p", "ann"), death(4, "ann"))
	r := rights(family(5, "p", "ann"), death(9, "bob"))
	for _, x := range allAsked() {
		fails := func(r api.Rights, place, name string, day int, want api.Errno) {
			t.Helper()
			if result, e := x.ask(r, place, name, day); !isZero(result) || e != want {
				t.Error(x.what, place, name, day, result, e)
			}
		}
		fails(wrong, "?", "?", -1, api.ErrOrder)
		fails(api.Rights{Laws: []api.Law{{}}}, "?", "?", -1, api.ErrForm)
		for _, word := range with(wrongNames, "") {
			if x.place {
				fails(r, word, "ann", -1, api.ErrName)
			}
			if x.name {
				fails(r, "p", word, -1, api.ErrName)
			}
		}
		for _, day := range with(extremes, api.MaxDay+1) {
			if x.day {
				fails(r, "p", "ann", day, api.ErrRange)
				fails(r, "o", "bob", day, api.ErrRange)
			}
		}
		for _, day := range []int{5, api.MaxDay} {
			if _, e := x.ask(r, "p", "ann", day); e != api.OK {
				t.Error(x.what, day, e)
			}
		}
		before, e := x.ask(r, "p", "ann", 0)
		if x.place && x.day && x.what != "Holders" && x.what != "Share" {
			if !isZero(before) || e != api.ErrNone {
				t.Error(x.what, before, e)
			}
		} else if e != api.OK {
			t.Error(x.what, before, e)
		}
	}
}
