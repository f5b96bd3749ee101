package right_test

import (
	"math"
	"reflect"
	"slices"
	"strconv"
	"testing"

	"mortsafe/api"
	"mortsafe/right"
)

// extremes are numbers that no function may stumble over.
var extremes = []int{math.MinInt, math.MinInt + 1, -1, math.MaxInt - 1, math.MaxInt}

// wrongNames are texts that are neither empty nor names.
var wrongNames = []string{"-", "1", "-a", "1a", "a b", " ", "a ", " a", "a\n", "a.", "a_b", "é", "aé", "a\x00", "\xff", "abcdefghijklm"}

// rightNames are names.
var rightNames = []string{"a", "Z", "ann", "a-", "a1", "A-9-z", "abcdefghijkl"}

func frac(num, den int) api.Frac { return api.Frac{Num: num, Den: den} }

func part(name string, num, den int) api.Part { return api.Part{Name: name, Share: frac(num, den)} }

func parts(l ...api.Part) []api.Part { return l }

func deeds(l ...api.Deed) []api.Deed { return l }

// grant is the grant of a right without end, or of a term right with one.
func grant(day int, place string, class, years int, to ...api.Part) api.Deed {
	return api.Deed{Kind: api.DeedGrant, Day: day, Place: place, To: to, Class: class, Years: years}
}

// family is the grant of all of a family right without end.
func family(day int, place, to string) api.Deed {
	return grant(day, place, api.ClassFamily, 0, part(to, 1, 1))
}

func transfer(day int, place, from string, to ...api.Part) api.Deed {
	return api.Deed{Kind: api.DeedTransfer, Day: day, Place: place, From: from, To: to}
}

func surrender(day int, place, from string) api.Deed {
	return api.Deed{Kind: api.DeedSurrender, Day: day, Place: place, From: from}
}

func renewal(day int, place string, years int) api.Deed {
	return api.Deed{Kind: api.DeedRenewal, Day: day, Place: place, Years: years}
}

func will(day int, from string, to ...api.Part) api.Deed {
	return api.Deed{Kind: api.DeedWill, Day: day, From: from, To: to}
}

// between is a deed of two people.
func between(kind, day int, from, to string) api.Deed {
	return api.Deed{Kind: kind, Day: day, From: from, To: parts(api.Part{Name: to})}
}

func renounce(day int, from, of string) api.Deed { return between(api.DeedRenounce, day, from, of) }

func child(day int, parent, of string) api.Deed { return between(api.DeedChild, day, parent, of) }

func marriage(day int, one, other string) api.Deed {
	return between(api.DeedMarriage, day, one, other)
}

func death(day int, name string) api.Deed {
	return api.Deed{Kind: api.DeedDeath, Day: day, From: name}
}

func law(from int, stems bool, num, den int) api.Law {
	return api.Law{From: from, Stems: stems, Spouse: frac(num, den)}
}

// twoLaws are the laws of the chapter's examples.
func twoLaws() []api.Law { return []api.Law{law(0, false, 1, 4), law(50000, true, 1, 2)} }

func rights(l ...api.Deed) api.Rights { return api.Rights{Laws: twoLaws(), Deeds: l} }

// example is the deeds of the chapter's examples, before those of example 1.
func example() api.Rights {
	return rights(child(0, "ann", "bob"), child(0, "ann", "cat"), marriage(0, "ann", "dan"), family(100, "a1", "ann"))
}

// behind takes further deeds, which must be accepted.
func behind(t *testing.T, r api.Rights, further ...api.Deed) api.Rights {
	t.Helper()
	for _, d := range further {
		longer, e := right.Next(r, d)
		if e != api.OK {
			t.Fatal(d, e)
		}
		r = longer
	}
	return r
}

// refuse takes a further deed, which must be refused with an error.
func refuse(t *testing.T, r api.Rights, d api.Deed, want api.Errno) {
	t.Helper()
	if n, e := right.Replay(r); n != len(r.Deeds) || e != api.OK {
		t.Fatal("wrong before", r.Deeds, n, e)
	}
	if longer, e := right.Next(r, d); e != want || !reflect.DeepEqual(longer, api.Rights{}) {
		t.Errorf("%v: %d, not %d: %v", d, e, want, longer)
	}
	longer := api.Rights{Laws: r.Laws, Deeds: with(r.Deeds, d, api.Deed{Kind: -1})}
	if n, e := right.Replay(longer); n != len(r.Deeds) || e != want {
		t.Errorf("Replay of %v: %d, not %d: %d", d, e, want, n)
	}
}

// accept takes a further deed, which must be accepted.
func accept(t *testing.T, r api.Rights, d api.Deed) {
	t.Helper()
	if longer, e := right.Next(r, d); e != api.OK || len(longer.Deeds) != len(r.Deeds)+1 {
		t.Errorf("%v: %d", d, e)
	}
}

// held checks the holders of a place on a day.
func held(t *testing.T, r api.Rights, place string, day int, want ...api.Part) {
	t.Helper()
	if l, e := right.Holders(r, place, day); !slices.Equal(l, want) || e != api.OK {
		t.Errorf("%s on %d: %v %d, not %v", place, day, l, e, want)
	}
}

// inherits checks an estate.
func inherits(t *testing.T, r api.Rights, name string, day int, want ...api.Part) {
	t.Helper()
	if l, e := right.Estate(r, name, day); !slices.Equal(l, want) || e != api.OK {
		t.Errorf("the estate of %s on %d: %v %d, not %v", name, day, l, e, want)
	}
}

// equal compares two values, of which nil and empty lists are the same.
func equal(a, b any) bool {
	return reflect.DeepEqual(a, b) || alike(reflect.ValueOf(a), reflect.ValueOf(b))
}

func alike(a, b reflect.Value) bool {
	switch a.Kind() {
	case reflect.Slice:
		if a.Len() != b.Len() {
			return false
		}
		for i := range a.Len() {
			if !alike(a.Index(i), b.Index(i)) {
				return false
			}
		}
		return true
	case reflect.Struct:
		for i := range a.NumField() {
			if !alike(a.Field(i), b.Field(i)) {
				return false
			}
		}
		return true
	}
	return a.Interface() == b.Interface()
}

// with returns a list with something else behind it, in memory of its own.
func with[T any](l []T, further ...T) []T { return slices.Concat(l, further) }

func repeat[T any](n int, what func(i int) T) []T {
	var l []T
	for i := range n {
		l = append(l, what(i))
	}
	return l
}

// always returns a function that returns one thing.
func always[T any](x T) func(int) T { return func(int) T { return x } }

// numbered returns a name with a number.
func numbered(name string, i int) string { return name + strconv.Itoa(i) }

// isZero tells whether a result is a zero value, or an empty list.
func isZero(result any) bool {
	v := reflect.ValueOf(result)
	return v.IsZero() || v.Kind() == reflect.Slice && v.Len() == 0
}
