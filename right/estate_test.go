package right_test

import (
	"slices"
	"testing"

	"mortsafe/api"
	"mortsafe/right"
)

// P5.4: who would inherit is who inherits, by the law of the day.
func TestEstate(t *testing.T) {
	r := example()
	inherits(t, r, "ann", 200, part("bob", 3, 8), part("cat", 3, 8), part("dan", 1, 4))
	inherits(t, r, "ann", 0, part("bob", 3, 8), part("cat", 3, 8), part("dan", 1, 4))
	inherits(t, r, "ann", 49999, part("bob", 3, 8), part("cat", 3, 8), part("dan", 1, 4))
	inherits(t, r, "ann", 50000, part("bob", 1, 4), part("cat", 1, 4), part("dan", 1, 2))
	inherits(t, r, "dan", 200, part("ann", 1, 1))
	inherits(t, r, "bob", 200, part("", 1, 1))
	inherits(t, r, "zoe", 200, part("", 1, 1))
	r = behind(t, r, child(120, "bob", "eve"), death(150, "bob"))
	inherits(t, r, "ann", 149, part("bob", 3, 8), part("cat", 3, 8), part("dan", 1, 4))
	inherits(t, r, "ann", 150, part("cat", 3, 4), part("dan", 1, 4))
	inherits(t, r, "ann", 60000, part("cat", 1, 4), part("dan", 1, 2), part("eve", 1, 4))
	if l, e := right.Estate(r, "bob", 150); len(l) != 0 || e != api.ErrState {
		t.Error(l, e)
	}
	if l, e := right.Estate(r, "bob", 149); len(l) != 1 || e != api.OK {
		t.Error(l, e)
	}
	r.Laws = nil // heads; a spouse beside children has nothing
	inherits(t, r, "ann", 60000, part("cat", 1, 1))
	inherits(t, r, "dan", 60000, part("ann", 1, 1))
	r.Laws = []api.Law{law(0, false, 1, 1)}
	inherits(t, r, "ann", 60000, part("dan", 1, 1))
}

// estateCase is deeds, and who inherits of p by heads and by stems with 1/3 for a spouse.
type estateCase struct {
	what         string
	l            []api.Deed
	heads, stems []api.Part
}

var unknown = parts(part("", 1, 1))

// estateCases are families of p.
func estateCases() []estateCase {
	two := deeds(child(0, "p", "a"), child(0, "p", "b"))
	wed := with(two, marriage(0, "p", "s"))
	deep := with(wed, child(0, "a", "c"), child(0, "a", "d"), child(0, "c", "e"), child(0, "c", "f"))
	halves := parts(part("a", 1, 2), part("b", 1, 2))
	return []estateCase{
		{"nobody", nil, unknown, unknown},
		{"two children", two, halves, halves},
		{"two children and a spouse", wed, parts(part("a", 1, 3), part("b", 1, 3), part("s", 1, 3)), parts(part("a", 1, 3), part("b", 1, 3), part("s", 1, 3))},
		{"a dead spouse", with(wed, death(0, "s")), halves, halves},
		{"a spouse that renounces", with(wed, renounce(0, "s", "p")), halves, halves},
		{"a spouse that renounces another's estate", with(wed, renounce(0, "s", "a"), renounce(0, "p", "s")), parts(part("a", 1, 3), part("b", 1, 3), part("s", 1, 3)), parts(part("a", 1, 3), part("b", 1, 3), part("s", 1, 3))},
		{"dead children", with(wed, death(0, "a"), death(0, "b")), parts(part("s", 1, 1)), parts(part("s", 1, 1))},
		{"dead children, no spouse", with(two, death(0, "a"), death(0, "b")), unknown, unknown},
		{"all renounce", with(wed, renounce(0, "a", "p"), renounce(0, "b", "p"), renounce(0, "s", "p")), unknown, unknown},
		{"a dead child with children", with(deep, death(0, "a")), parts(part("b", 2, 3), part("s", 1, 3)), parts(part("b", 1, 3), part("c", 1, 6), part("d", 1, 6), part("s", 1, 3))},
		{"a child with children renounces", with(deep, renounce(0, "a", "p")), parts(part("b", 2, 3), part("s", 1, 3)), parts(part("b", 1, 3), part("c", 1, 6), part("d", 1, 6), part("s", 1, 3))},
		{"a dead child and a dead grandchild", with(deep, death(0, "a"), death(0, "c")), parts(part("b", 2, 3), part("s", 1, 3)), parts(part("b", 1, 3), part("d", 1, 6), part("e", 1, 12), part("f", 1, 12), part("s", 1, 3))},
		{"a grandchild renounces", with(deep, death(0, "a"), renounce(0, "c", "p")), parts(part("b", 2, 3), part("s", 1, 3)), parts(part("b", 1, 3), part("d", 1, 6), part("e", 1, 12), part("f", 1, 12), part("s", 1, 3))},
		{"a dead line", with(deep, death(0, "a"), death(0, "c"), death(0, "d"), death(0, "e"), death(0, "f")), parts(part("b", 2, 3), part("s", 1, 3)), parts(part("b", 2, 3), part("s", 1, 3))},
		{"one of a line", with(deep, death(0, "a"), death(0, "c"), death(0, "d"), death(0, "e")), parts(part("b", 2, 3), part("s", 1, 3)), parts(part("b", 1, 3), part("f", 1, 3), part("s", 1, 3))},
		{"stems alone", with(deep, death(0, "a"), death(0, "b")), parts(part("s", 1, 1)), parts(part("c", 1, 3), part("d", 1, 3), part("s", 1, 3))},
		{"a grandchild of two children", with(two, child(0, "a", "c"), child(0, "b", "c"), death(0, "a"), death(0, "b")), unknown, parts(part("c", 1, 1))},
		{"of two children, beside another", with(two, child(0, "p", "d"), child(0, "a", "c"), child(0, "b", "c"), death(0, "a"), death(0, "b")), parts(part("d", 1, 1)), parts(part("c", 2, 3), part("d", 1, 3))},
		{"a child that is a grandchild, too", deeds(child(0, "p", "a"), child(0, "a", "b"), child(0, "p", "b"), death(0, "a")), parts(part("b", 1, 1)), parts(part("b", 1, 1))},
		{"a child that is a grandchild beside another", deeds(child(0, "p", "a"), child(0, "a", "b"), child(0, "p", "b"), child(0, "a", "c"), death(0, "a")), parts(part("b", 1, 1)), parts(part("b", 3, 4), part("c", 1, 4))},
		{"a spouse that is a child", deeds(child(0, "p", "a"), child(0, "p", "b"), marriage(0, "a", "p")), parts(part("a", 2, 3), part("b", 1, 3)), parts(part("a", 2, 3), part("b", 1, 3))},
		{"a spouse that is a grandchild", with(two, child(0, "a", "s"), marriage(0, "s", "p"), death(0, "a")), parts(part("b", 2, 3), part("s", 1, 3)), parts(part("b", 1, 3), part("s", 2, 3))},
		{"a second marriage", with(two, marriage(0, "p", "r"), death(0, "r"), marriage(0, "s", "p")), parts(part("a", 1, 3), part("b", 1, 3), part("s", 1, 3)), parts(part("a", 1, 3), part("b", 1, 3), part("s", 1, 3))},
		{"a parent", deeds(child(0, "a", "p")), unknown, unknown},
	}
}

// P5.4: by the law the spouse and the lines inherit; stems stand for those that are not able.
func TestEstatesByLaw(t *testing.T) {
	for _, x := range estateCases() {
		for _, stems := range []bool{false, true} {
			r := api.Rights{Laws: []api.Law{law(0, stems, 1, 3)}, Deeds: x.l}
			want := x.heads
			if stems {
				want = x.stems
			}
			if l, e := right.Estate(r, "p", 0); !slices.Equal(l, want) || e != api.OK {
				t.Error(x.what, stems, l, e)
			}
			r.Deeds = with(deeds(grant(0, "q", 0, 0, part("p", 1, 1))), with(x.l, death(5, "p"))...)
			held(t, r, "q", 5, want...)
		}
	}
}

// P5.4: the last will counts, of it those that are able; the rest goes by the law.
func TestEstatesByWill(t *testing.T) {
	family := deeds(child(0, "p", "a"), child(0, "p", "b"), marriage(0, "p", "s"))
	third := deeds(will(0, "p", part("x", 1, 3)))
	tests := []struct {
		what string
		l    []api.Deed
		want []api.Part
	}{
		{"a third, nobody else", third, parts(part("", 2, 3), part("x", 1, 3))},
		{"a third", with(family, third...), parts(part("a", 2, 9), part("b", 2, 9), part("s", 2, 9), part("x", 1, 3))},
		{"to a dead one", with(family, will(0, "p", part("x", 1, 3)), death(0, "x")), parts(part("a", 1, 3), part("b", 1, 3), part("s", 1, 3))},
		{"to one dead by then", with(family, death(0, "x"), will(0, "p", part("x", 1, 3))), parts(part("a", 1, 3), part("b", 1, 3), part("s", 1, 3))},
		{"to one that renounces", with(family, renounce(0, "x", "p"), will(0, "p", part("x", 1, 3))), parts(part("a", 1, 3), part("b", 1, 3), part("s", 1, 3))},
		{"to two, one of them dead", with(family, will(0, "p", part("x", 1, 3), part("y", 2, 3)), death(0, "x")), parts(part("a", 1, 9), part("b", 1, 9), part("s", 1, 9), part("y", 2, 3))},
		{"all", with(family, will(0, "p", part("y", 2, 3), part("x", 1, 3))), parts(part("x", 1, 3), part("y", 2, 3))},
		{"all, nobody else", deeds(will(0, "p", part("x", 1, 1))), parts(part("x", 1, 1))},
		{"all to a dead one", deeds(will(0, "p", part("x", 1, 1)), death(0, "x")), unknown},
		{"to a child and the spouse", with(family, will(0, "p", part("a", 1, 4), part("s", 1, 4))), parts(part("a", 5, 12), part("b", 1, 6), part("s", 5, 12))},
		{"to a child that renounces", with(family, will(0, "p", part("a", 1, 4)), renounce(0, "a", "p")), parts(part("b", 2, 3), part("s", 1, 3))},
		{"a later will", with(family, with(third, will(0, "p", part("y", 1, 2)))...), parts(part("a", 1, 6), part("b", 1, 6), part("s", 1, 6), part("y", 1, 2))},
		{"a later will to a dead one", with(family, with(third, will(0, "p", part("y", 1, 2)), death(0, "y"))...), parts(part("a", 1, 3), part("b", 1, 3), part("s", 1, 3))},
		{"another's will", with(family, will(0, "s", part("x", 1, 3))), parts(part("a", 1, 3), part("b", 1, 3), part("s", 1, 3))},
	}
	for _, x := range tests {
		for _, stems := range []bool{false, true} {
			r := api.Rights{Laws: []api.Law{law(0, stems, 1, 3)}, Deeds: x.l}
			if l, e := right.Estate(r, "p", 0); !slices.Equal(l, x.want) || e != api.OK {
				t.Error(x.what, stems, l, e)
			}
			r.Deeds = with(deeds(grant(0, "q", 0, 0, part("p", 1, 1))), with(x.l, death(5, "p"))...)
			held(t, r, "q", 5, x.want...)
		}
	}
}

// P5.3, P5.4: a death passes on what is held of all rights in force, of each its part; unknown
// heirs keep what they have.
func TestDeathsPassOn(t *testing.T) {
	r := rights(
		child(0, "p", "a"), child(0, "p", "b"), grant(0, "q1", api.ClassCommon, 0, part("p", 1, 2), part("a", 1, 2)), grant(0, "q2", api.ClassTerm, 1, part("p", 1, 1)),
		grant(0, "q3", 0, 0, part("x", 1, 3), part("p", 2, 3)), grant(0, "q4", 0, 0, part("x", 1, 1)), grant(0, "q5", 0, 0, part("p", 1, 1)), transfer(0, "q5", "p", part("x", 1, 1)),
		death(400, "p"), death(500, "x"), death(600, "b"), transfer(700, "q3", "a", part("c", 1, 1)), surrender(800, "q3", "c"),
	)
	held(t, r, "q1", 400, part("a", 3, 4), part("b", 1, 4))
	held(t, r, "q2", 364, part("p", 1, 1))
	held(t, r, "q2", 365)
	held(t, r, "q2", 400)
	held(t, r, "q3", 400, part("a", 1, 3), part("b", 1, 3), part("x", 1, 3))
	held(t, r, "q4", 400, part("x", 1, 1))
	held(t, r, "q5", 400, part("x", 1, 1))
	held(t, r, "q3", 500, part("", 1, 3), part("a", 1, 3), part("b", 1, 3))
	held(t, r, "q5", 500, part("", 1, 1))
	held(t, r, "q1", 600, part("", 1, 4), part("a", 3, 4))
	held(t, r, "q3", 600, part("", 2, 3), part("a", 1, 3))
	held(t, r, "q3", 700, part("", 2, 3), part("c", 1, 3))
	held(t, r, "q3", 800, part("", 1, 1))
	refuse(t, r, grant(900, "q3", 0, 0, part("a", 1, 1)), api.ErrClash)
}

// narrow is a family of p by stems in which each of some people has so many lines that the
// last ones have parts of 1 by the product of the counts; all before the last ones are dead.
func narrow(counts ...int) []api.Deed {
	var l []api.Deed
	parent := "p"
	for i, count := range counts {
		for k := range count {
			l = append(l, child(0, parent, numbered(numbered("c", i)+"-", k)))
		}
		if i < len(counts)-1 {
			parent = numbered("c", i) + "-0"
			l = append(l, death(0, parent))
		}
	}
	return l
}

// fineWill leaves 227531/720720 to the law.
func fineWill() api.Deed {
	return will(0, "p", part("u", 1, 16), part("v", 1, 9), part("w", 1, 5), part("x", 1, 7), part("y", 1, 11), part("z", 1, 13))
}

// owned is deeds by which p holds a place, too.
func owned(l []api.Deed) []api.Deed {
	return with(deeds(grant(0, "q", 0, 0, part("p", 1, 1))), l...)
}

// tooFine checks that the estate of p is too fine, so that p cannot die as a holder.
func tooFine(t *testing.T, laws []api.Law, l []api.Deed) {
	t.Helper()
	r := api.Rights{Laws: laws, Deeds: l}
	if l, e := right.Estate(r, "p", 0); len(l) != 0 || e != api.ErrLarge {
		t.Error(l, e)
	}
	accept(t, r, death(0, "p"))
	r.Deeds = owned(l)
	refuse(t, r, death(0, "p"), api.ErrLarge)
}

// fineEnough checks that p can die as a holder, and gives a part to someone.
func fineEnough(t *testing.T, laws []api.Law, l []api.Deed, heir api.Part) {
	t.Helper()
	r := api.Rights{Laws: laws, Deeds: l}
	heirs, e := right.Estate(r, "p", 0)
	if !slices.Contains(heirs, heir) || e != api.OK {
		t.Error(heirs, e)
	}
	accept(t, r, death(0, "p"))
	r.Deeds = owned(l)
	held(t, behind(t, r, death(0, "p")), "q", 0, heirs...)
}

// P5.2, P5.4: the part of a line may have a denominator of 1000000000, not more; this is
// told to those who hold nothing if they ask, not if they die.
func TestFineLines(t *testing.T) {
	stems := []api.Law{law(0, true, 0, 1)}
	fineEnough(t, stems, narrow(13, 13, 11, 7), part("c3-6", 1, 13*13*11*7))
	fineEnough(t, stems, with(narrow(11, 11, 11), fineWill()), part("c2-10", 227531, 720720*11*11*11))
	tooFine(t, stems, with(narrow(11, 11, 12), fineWill()))
	tooFine(t, stems, with(narrow(11, 11, 12, 2), fineWill()))
	// a rest of 59/80 of 9/10, 5 to the 7th lines, and 4*4
	tenth := []api.Law{law(0, true, 1, 10)}
	further := deeds(will(0, "p", part("x", 1, 16), part("y", 1, 5)), marriage(0, "p", "s"))
	fineEnough(t, tenth, with(narrow(5, 5, 5, 5, 5, 5, 5, 4, 4), further...), part("c8-3", 59*9, 1000000000))
	tooFine(t, tenth, with(narrow(5, 5, 5, 5, 5, 5, 5, 4, 4, 2), further...))
	// the line of one who is not able has a part, too
	fineEnough(t, stems, with(narrow(11, 11, 11, 1), fineWill()), part("c3-0", 227531, 720720*11*11*11))
	tooFine(t, stems, with(narrow(11, 11, 12, 1), fineWill()))
	// by heads there is no line so fine
	fineEnough(t, []api.Law{law(0, false, 0, 1)}, with(narrow(11, 11, 12), fineWill()), part("c0-1", 227531, 720720*10))
}

// lead makes someone a dead parent of children, of whom the last one has a name.
func lead(parent string, count int, last string) []api.Deed {
	others := repeat(count-1, func(i int) api.Deed { return child(0, parent, numbered(parent+"-", i)) })
	return with(others, child(0, parent, last), death(0, parent))
}

// P5.2, P5.4: nor may the sum of the parts of one person, line by line in the order of the
// child deeds, each line with its own lines behind it.
func TestFineSumsOfLines(t *testing.T) {
	stems := []api.Law{law(0, true, 0, 1)}
	lines := func(of ...string) []api.Deed {
		return repeat(len(of), func(i int) api.Deed { return child(0, "p", of[i]) })
	}
	twoLines := slices.Concat(lines("a", "b"), lead("a", 7, "a1"), lead("a1", 7, "k"), lead("b", 4, "b1"), deeds(fineWill()))
	fineEnough(t, stems, with(twoLines, lead("b1", 6, "l")...), part("k", 227531, 720720*2*49))
	tooFine(t, stems, with(twoLines, lead("b1", 6, "k")...)) // 227531/720720 of 1/2 of (1/49 + 1/24)
	// k has 1/25 of the line of a, 1/28 of that of c and 1/21 of that of d: the last two make 1/12
	threeLines := slices.Concat(lead("a", 25, "k"), lead("c", 4, "b"), lead("d", 3, "b"), lead("b", 7, "k"), deeds(fineWill()))
	sum := part("k", 227531*37, 720720*3*300)
	fineEnough(t, stems, with(lines("c", "d", "a"), threeLines...), sum)
	fineEnough(t, stems, with(lines("d", "c", "a"), threeLines...), sum)
	fineEnough(t, stems, with(lines("a", "d", "c"), threeLines...), sum)
	fineEnough(t, stems, with(lines("d", "a", "c"), threeLines...), sum)
	tooFine(t, stems, with(lines("a", "c", "d"), threeLines...))
	tooFine(t, stems, with(lines("c", "a", "d"), threeLines...))
}

// P5.2: what an heir gets of a right, and the sum with what it has by then, may not be too
// fine, of any of the rights; the fractions of the estate alone are not.
func TestFineHeirs(t *testing.T) {
	heirs := deeds(child(0, "p", "a"), child(0, "p", "b"), child(0, "p", "c"))
	r := rights(with(heirs, owned(nil)...)...)
	thirds := parts(part("a", 1, 3), part("b", 1, 3), part("c", 1, 3))
	held(t, behind(t, r, death(0, "p")), "q", 0, thirds...)
	give := func(place string, n int) []api.Deed {
		return repeat(n, func(i int) api.Deed { return transfer(0, place, "p", part(numbered("n", i), 1, 16)) })
	}
	sixth := with(heirs, owned(give("q", 6))...)
	held(t, behind(t, rights(sixth...), death(0, "p")), "q", 0, modelHeirs(6)...)
	seventh := with(heirs, owned(give("q", 7))...) // 15^7/16^7 of 1/3 can still be reduced
	held(t, behind(t, rights(seventh...), death(0, "p")), "q", 0, modelHeirs(7)...)
	refuse(t, rights(with(seventh, will(0, "p", part("x", 1, 4)))...), death(0, "p"), api.ErrLarge)
	accept(t, rights(with(seventh, will(0, "p", part("x", 1, 4)), surrender(0, "q", "p"))...), death(0, "p"))
	other := deeds(grant(0, "o", 0, 0, part("p", 1, 1)))
	refuse(t, rights(slices.Concat(other, seventh, deeds(will(0, "p", part("x", 1, 4))))...), death(0, "p"), api.ErrLarge)
	refuse(t, rights(slices.Concat(seventh, other, deeds(will(0, "p", part("x", 1, 4))))...), death(0, "p"), api.ErrLarge)
	accept(t, rights(slices.Concat(seventh, other, deeds(will(0, "p", part("x", 3, 5))))...), death(0, "p"))
	// a has 1/16 to the 7th, and gets thirteenths: each is fine enough
	sums := with(owned(nil), transfer(0, "q", "p", part("a", 1, 16)))
	for i := range 6 {
		sums = append(sums, transfer(0, "q", "a", part(numbered("n", i), 15, 16)))
	}
	left := part("a", 1, 1<<28)
	if f, e := right.Share(rights(sums...), "q", "a", 0); f != left.Share || e != api.OK {
		t.Fatal(f, e)
	}
	toA := with(sums, will(0, "p", part("a", 1, 13)))
	refuse(t, rights(toA...), death(0, "p"), api.ErrLarge)
	accept(t, rights(with(toA, transfer(0, "q", "a", part("n0", 1, 1)))...), death(0, "p"))
	accept(t, rights(with(toA, death(0, "a"))...), death(0, "p"))
	accept(t, rights(with(sums, will(0, "p", part("b", 1, 13)))...), death(0, "p"))
}
