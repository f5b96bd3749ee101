package right_test

import (
	"slices"
	"testing"

	"mortsafe/api"
	"mortsafe/right"
)

// may checks who of some people may be buried at a place.
func may(t *testing.T, r api.Rights, place string, day int, want map[string]bool) {
	t.Helper()
	for name, is := range want {
		if got, e := right.MayBury(r, place, name, day); got != is || e != api.OK {
			t.Errorf("%s at %s on %d: %v %d", name, place, day, got, e)
		}
	}
}

// all returns which of all people of the test of classes are some of them.
func all(some ...string) map[string]bool {
	is := map[string]bool{}
	for _, name := range []string{"old", "mum", "dad", "ann", "sis", "ex", "dan", "bob", "wife", "kid", "step", "zoe"} {
		is[name] = slices.Contains(some, name)
	}
	return is
}

// P5.5: the chapter's example 4.
func TestExampleOfBurials(t *testing.T) {
	r := behind(t, example(), child(120, "bob", "eve"), death(150, "bob"), death(200, "ann"))
	may(t, r, "a1", 300, map[string]bool{"ann": true, "dan": true, "bob": true, "cat": true, "eve": true, "hal": false})
}

// P5.5: by the classes the entitled, those who were married to them, descendants, parents
// or all may be buried.
func TestClassesOfBurials(t *testing.T) {
	r := rights(
		child(0, "old", "mum"), child(0, "mum", "ann"), child(0, "dad", "ann"), child(0, "mum", "sis"), marriage(0, "ann", "ex"), death(1, "ex"), marriage(2, "dan", "ann"),
		child(2, "ann", "bob"), marriage(2, "bob", "wife"), child(2, "bob", "kid"), child(2, "dan", "step"),
		grant(5, "x", api.ClassExclusive, 0, part("ann", 1, 1)), grant(5, "f", api.ClassFamily, 0, part("ann", 1, 1)), grant(5, "t", api.ClassTerm, 1, part("ann", 1, 1)),
		grant(5, "p", api.ClassPerpetual, 0, part("ann", 1, 1)), grant(5, "c", api.ClassCommon, 0, part("ann", 1, 1)),
	)
	relatives := []string{"ann", "ex", "dan", "bob", "kid"}
	check := func(r api.Rights, day int) {
		t.Helper()
		may(t, r, "x", day, all("ann"))
		may(t, r, "f", day, all(relatives...))
		may(t, r, "t", day, all(with(relatives, "mum", "dad")...))
		may(t, r, "p", day, all(with(relatives, "mum", "dad")...))
		may(t, r, "c", day, all("old", "mum", "dad", "ann", "sis", "ex", "dan", "bob", "wife", "kid", "step", "zoe"))
	}
	check(r, 5)
	check(behind(t, r, death(6, "kid"), death(6, "mum"), death(6, "dan")), 6)
	// as it was known on the day: ann gives all away, and has no rights to a place any more
	gone := behind(t, r, transfer(7, "f", "ann", part("zoe", 1, 1)))
	may(t, gone, "f", 6, all(relatives...))
	may(t, gone, "f", 7, all("zoe"))
	half := behind(t, r, transfer(7, "f", "ann", part("sis", 1, 2)), marriage(8, "sis", "step"), child(9, "zoe", "sis"))
	may(t, half, "f", 7, all(with(relatives, "sis")...))
	may(t, half, "f", 8, all(with(relatives, "sis", "step")...))
	for _, place := range []string{"x", "f", "t", "p", "c", "o"} {
		if is, e := right.MayBury(r, place, "ann", 4); is || e != api.ErrNone {
			t.Error(place, is, e)
		}
	}
	if is, e := right.MayBury(r, "t", "ann", 370); is || e != api.ErrNone {
		t.Error(is, e)
	}
}

// P5.5: the entitled are holders, and those who died as holders of this right, not of one
// that was there before; unknown heirs are none.
func TestEntitled(t *testing.T) {
	ann, bob := part("ann", 1, 1), part("bob", 1, 1)
	r := rights(
		marriage(0, "ann", "bob"), grant(0, "x", api.ClassExclusive, 0, ann), grant(0, "t", api.ClassTerm, 1, ann), grant(0, "u", api.ClassExclusive, 0, part("una", 1, 1)),
		death(10, "ann"), death(10, "una"), transfer(20, "x", "bob", part("cat", 1, 1)), death(30, "cat"),
	)
	may(t, r, "x", 9, map[string]bool{"ann": true, "bob": false, "cat": false})
	may(t, r, "x", 10, map[string]bool{"ann": true, "bob": true, "cat": false})
	may(t, r, "x", 20, map[string]bool{"ann": true, "bob": false, "cat": true})
	may(t, r, "x", 30, map[string]bool{"ann": true, "bob": false, "cat": true, "una": false})
	may(t, r, "u", 30, map[string]bool{"ann": false, "una": true, "zoe": false})
	again := behind(t, r, surrenderAll(t, r, 40, "t", "bob"), grant(40, "t", api.ClassTerm, 1, bob))
	may(t, again, "t", 39, map[string]bool{"ann": true, "bob": true, "cat": false})
	may(t, again, "t", 40, map[string]bool{"bob": true, "cat": false})
	may(t, behind(t, r, grant(365, "t", api.ClassExclusive, 0, part("cy", 1, 1))), "t", 365, map[string]bool{"ann": false, "bob": false, "cy": true})
	// of two rights on one day, those of the one that is in force
	may(t, behind(t, r, surrender(40, "t", "bob"), grant(40, "t", api.ClassExclusive, 0, part("cy", 1, 1)), death(40, "cy")), "t", 40, map[string]bool{"ann": false, "bob": false, "cy": true})
}

// surrenderAll is the surrender of the last holder of a place.
func surrenderAll(t *testing.T, r api.Rights, day int, place, name string) api.Deed {
	t.Helper()
	held(t, r, place, day, part(name, 1, 1))
	return surrender(day, place, name)
}

// P5.5: Majority tells the fewest holders with more than 1/2, ascending.
func TestMajority(t *testing.T) {
	tests := []struct {
		what    string
		holders []api.Part
		want    []string
	}{
		{"one", parts(part("a", 1, 1)), []string{"a"}},
		{"just a half", parts(part("a", 1, 2), part("b", 1, 2)), []string{"a", "b"}},
		{"a half, and the first of the others", parts(part("a", 1, 4), part("b", 1, 4), part("c", 1, 2)), []string{"a", "c"}},
		{"more than a half", parts(part("a", 3, 7), part("z", 4, 7)), []string{"z"}},
		{"a little more", parts(part("a", 7, 15), part("b", 8, 15)), []string{"b"}},
		{"of equal ones the first", parts(part("d", 1, 3), part("b", 1, 3), part("c", 1, 3)), []string{"b", "c"}},
		{"of many", parts(part("a", 1, 8), part("b", 1, 8), part("c", 1, 8), part("d", 1, 8), part("e", 1, 8), part("f", 1, 8), part("g", 1, 8), part("h", 1, 8)), []string{"a", "b", "c", "d", "e"}},
		{"the greatest", parts(part("a", 1, 10), part("b", 1, 5), part("c", 3, 10), part("d", 2, 5)), []string{"c", "d"}},
		{"capitals are first", parts(part("a", 1, 3), part("B", 1, 3), part("c", 1, 3)), []string{"B", "a"}},
	}
	for _, x := range tests {
		r := rights(grant(0, "p", api.ClassCommon, 0, x.holders...))
		if l, e := right.Majority(r, "p", 0); !slices.Equal(l, x.want) || e != api.OK {
			t.Error(x.what, l, e)
		}
	}
}

// P5.5: unknown heirs are no majority, and count for none.
func TestMajorityWithUnknownHeirs(t *testing.T) {
	r := rights(grant(0, "p", 0, 0, part("a", 2, 5), part("b", 1, 5), part("c", 1, 5), part("d", 1, 5)), death(5, "d"), death(6, "a"), death(7, "b"), death(8, "c"))
	tests := []struct {
		day  int
		want []string
		e    api.Errno
	}{{0, []string{"a", "b"}, api.OK}, {5, []string{"a", "b"}, api.OK}, {6, nil, api.ErrNone}, {7, nil, api.ErrNone}, {8, nil, api.ErrNone}}
	for _, x := range tests {
		if l, e := right.Majority(r, "p", x.day); !slices.Equal(l, x.want) || e != x.e {
			t.Error(x, l, e)
		}
	}
	halves := rights(grant(0, "p", 0, 0, part("a", 1, 2), part("b", 1, 2)), death(5, "b"))
	if l, e := right.Majority(halves, "p", 5); len(l) != 0 || e != api.ErrNone {
		t.Error(l, e)
	}
	for _, place := range []string{"o", "p"} {
		if l, e := right.Majority(rights(grant(5, "p", 0, 0, part("a", 1, 1))), place, 4); len(l) != 0 || e != api.ErrNone {
			t.Error(l, e)
		}
	}
}

// fineShares is a right that was granted to a, b and c, of which a has given away 1/16 five
// times, and b 1/13, 1/11, 1/7, 1/9 and again 1/13, so that the sum of both is too fine.
func fineShares(further []api.Deed, holders ...api.Part) api.Rights {
	l := deeds(grant(0, "p", 0, 0, holders...))
	for i := range 5 {
		l = append(l, transfer(0, "p", "a", part(numbered("n", i), 1, 16)))
	}
	for i, n := range []int{13, 11, 7, 9, 13} {
		l = append(l, transfer(0, "p", "b", part(numbered("m", i), 1, n)))
	}
	return rights(with(l, further...)...)
}

// P5.5: a sum on the way may not be too fine, nor may the one that is more than 1/2; behind
// it no more is added.
func TestFineMajorities(t *testing.T) {
	greatest := parts(part("a", 2, 5), part("b", 2, 5), part("c", 1, 5))
	smallest := parts(part("a", 1, 5), part("b", 1, 5), part("c", 3, 5))
	tests := []struct {
		what string
		r    api.Rights
		want []string
		e    api.Errno
	}{
		{"a and b have more than 1/2", fineShares(nil, greatest...), nil, api.ErrLarge},
		{"c has more than 1/2", fineShares(nil, smallest...), []string{"c"}, api.OK},
		{"nobody has more than 1/2", fineShares(deeds(death(0, "c")), smallest...), nil, api.ErrLarge},
	}
	for _, x := range tests {
		if n, e := right.Replay(x.r); e != api.OK {
			t.Fatal(x.what, n, e)
		}
		if l, e := right.Majority(x.r, "p", 0); !slices.Equal(l, x.want) || e != x.e {
			t.Error(x.what, l, e)
		}
	}
}
