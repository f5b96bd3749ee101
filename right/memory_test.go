package right_test

import (
	"math/rand"
	"reflect"
	"slices"
	"strings"
	"testing"

	"mortsafe/api"
	"mortsafe/right"
)

// roomy returns a list with room behind its end, in which a careless append would write.
func roomy[T any](l []T, behind T) []T {
	l = append(slices.Clone(l), behind, behind, behind)
	return l[:len(l)-3]
}

// wholeOf returns a list with what is written behind its end.
func wholeOf[T any](l []T) []T { return l[:len(l)+3] }

// roomyRights is rights whose lists all have room behind their ends.
func roomyRights() api.Rights {
	l := deeds(
		child(0, "ann", "bob"), child(0, "ann", "cat"), child(0, "bob", "eve"), marriage(0, "ann", "dan"), will(1, "ann", part("fay", 1, 2), part("gus", 1, 3)),
		family(100, "a1", "ann"), grant(100, "a2", api.ClassTerm, 3, part("ann", 1, 2), part("dan", 1, 2)), renewal(101, "a2", 1), renounce(102, "gus", "ann"),
		death(200, "ann"), transfer(210, "a1", "bob", part("hal", 1, 3), part("ida", 1, 3)), surrender(220, "a1", "dan"),
	)
	for i := range l {
		l[i].To = roomy(l[i].To, part("behind", 7, 7))
	}
	return api.Rights{Laws: roomy(twoLaws(), law(7, true, 7, 7)), Deeds: roomy(l, death(7, "behind"))}
}

// further is a deed whose parts have room behind their end.
func further() api.Deed {
	return transfer(230, "a1", "hal", roomy(parts(part("bob", 1, 2), part("jim", 1, 4)), part("behind", 7, 7))...)
}

func disputed() []api.Record {
	return roomy(with(exampleRecords(), childOf("eve", "bob"), childOf("bob", "eve")), died("behind", 7))
}

// rightsWithRoom are rights with what is written behind their ends.
func rightsWithRoom(r api.Rights, d api.Deed, l []api.Record, set []int) []any {
	var to []any
	for _, d := range with(r.Deeds, d) {
		to = append(to, wholeOf(d.To))
	}
	return []any{wholeOf(r.Laws), wholeOf(r.Deeds), to, wholeOf(l), wholeOf(set)}
}

// everything is the results of all functions.
func everything(r api.Rights, d api.Deed, l []api.Record, set []int) []any {
	of := func(results ...any) []any { return results }
	all := slices.Concat(
		of(right.CheckLaws(r.Laws)), of(right.LawOn(r.Laws, 5)), of(right.CheckDeed(d)), of(right.Next(r, d)), of(right.Replay(r)),
		of(right.CheckRecords(l)), of(right.Contradicts(l)), of(right.Dispute(l)), of(right.LeastDispute(l)), of(right.CheckDispute(l, set)),
		of(right.FormatDeed(d)), of(right.ParseDeed(right.FormatDeed(d))),
	)
	for _, day := range []int{0, 150, 200, 210, 220, 1000, 2000} {
		for _, name := range []string{"ann", "bob", "dan", "hal"} {
			for _, x := range allAsked() {
				all = append(all, of(x.ask(r, "a1", name, day))...)
			}
		}
	}
	return all
}

func arguments() (api.Rights, api.Deed, []api.Record, []int) {
	return roomyRights(), further(), disputed(), roomy([]int{3, 4}, 7)
}

// R3 (P1): no function writes into its arguments, or behind them.
func TestArgumentsStay(t *testing.T) {
	r, d, l, set := arguments()
	everything(r, d, l, set)
	want := rightsWithRoom(arguments())
	if got := rightsWithRoom(r, d, l, set); !reflect.DeepEqual(got, want) {
		t.Error(got, want)
	}
}

// R3 (P1): writing into results, or behind them, changes no argument and no other result.
func TestResultsAreApart(t *testing.T) {
	r, d, l, set := arguments()
	first, want := everything(r, d, l, set), everything(arguments())
	for _, result := range everything(r, d, l, set) {
		spoil(reflect.ValueOf(result))
	}
	if !reflect.DeepEqual(first, want) || !reflect.DeepEqual(everything(r, d, l, set), want) {
		t.Error(first)
	}
	got, args := rightsWithRoom(r, d, l, set), rightsWithRoom(arguments())
	if !reflect.DeepEqual(got, args) {
		t.Error(got, args)
	}
}

// spoil fills a list, up to its capacity, with zeros.
func spoil(v reflect.Value) {
	switch v.Kind() {
	case reflect.Slice:
		all := v.Slice(0, v.Cap())
		for i := range all.Len() {
			if i < v.Len() {
				spoil(all.Index(i))
			}
			all.Index(i).SetZero()
		}
	case reflect.Struct:
		for i := range v.NumField() {
			spoil(v.Field(i))
		}
	}
}

// R3 (P1): the lists of one result are apart, too: appending to one changes no other one.
func TestListsOfOneResultAreApart(t *testing.T) {
	r, d, _, _ := arguments()
	lists := func() [][]api.Part {
		longer, e := right.Next(r, d)
		tenures, wrong := right.Tenures(longer, "a1")
		if e != api.OK || wrong != api.OK {
			t.Fatal(e, wrong)
		}
		var all [][]api.Part
		for _, d := range longer.Deeds {
			all = append(all, d.To)
		}
		for _, tenure := range tenures {
			all = append(all, tenure.Holders)
		}
		return all
	}
	want := lists()
	for i := range want {
		got := lists()
		spoil(reflect.ValueOf(append(got[i], part("more", 7, 7))))
		spoil(reflect.ValueOf(got[i]))
		for k := range got {
			if i != k && !slices.Equal(got[k], want[k]) {
				t.Error(i, k, got[k], want[k])
			}
		}
	}
}

// R4 (P1): the same arguments give the same results, also where maps are used.
func TestResultsAreRepeated(t *testing.T) {
	first := everything(arguments())
	many := repeat(8, func(i int) api.Part { return part(numbered("p", i), 1, 8) })
	r := rights(grant(0, "a", 0, 0, many...), death(1, "p3"), surrender(2, "a", "p5"))
	holders, _ := right.Holders(r, "a", 2)
	majority, _ := right.Majority(r, "a", 2)
	for range 30 {
		if got := everything(arguments()); !reflect.DeepEqual(got, first) {
			t.Fatal(got, first)
		}
		l, _ := right.Holders(r, "a", 2)
		m, _ := right.Majority(r, "a", 2)
		if !slices.Equal(l, holders) || !slices.Equal(m, majority) {
			t.Fatal(l, m)
		}
	}
}

// R5 (P1): nil lists and empty ones are the same.
func TestNoLists(t *testing.T) {
	for _, r := range []api.Rights{{}, {Laws: []api.Law{}, Deeds: []api.Deed{}}} {
		for _, d := range deeds(death(0, "ann"), api.Deed{Kind: api.DeedDeath, From: "ann", To: []api.Part{}}) {
			longer, e := right.Next(r, d)
			if !equal(longer, api.Rights{Deeds: deeds(d)}) || e != api.OK {
				t.Error(longer, e)
			}
			if n, e := right.Replay(longer); n != 1 || e != api.OK {
				t.Error(n, e)
			}
			if s := right.FormatDeed(d); s != "death 0 - ann 0 0" {
				t.Error(s)
			}
		}
		for _, x := range allAsked() {
			result, e := x.ask(r, "p", "ann", 5)
			none := x.what == "Class" || x.what == "Ends" || x.what == "MayBury" || x.what == "Majority"
			if none != (e == api.ErrNone) || !none && e != api.OK {
				t.Error(x.what, result, e)
			}
		}
	}
}

// R2 (P1): large arguments end soon, and nothing panics.
func TestLargeArguments(t *testing.T) {
	const many = 1 << 18
	large := family(0, "p", "ann")
	large.To = make([]api.Part, many)
	if e := right.CheckDeed(large); e != api.ErrLarge {
		t.Error(e)
	}
	if r, e := right.Next(rights(), large); !equal(r, api.Rights{}) || e != api.ErrLarge {
		t.Error(e)
	}
	if d, e := right.ParseDeed(right.FormatDeed(large)); !equal(d, api.Deed{}) || e != api.ErrLarge {
		t.Error(d, e)
	}
	wills := repeat(many, always(will(0, "ann", part("bob", 1, 1))))
	if n, e := right.Replay(rights(wills...)); n != 60 || e != api.ErrLarge {
		t.Error(n, e)
	}
	if e := right.CheckLaws(make([]api.Law, many)); e != api.ErrLarge {
		t.Error(e)
	}
	if set, e := right.Dispute(make([]api.Record, many)); set != nil || e != api.ErrLarge {
		t.Error(set, e)
	}
	if e := right.CheckDispute(exampleRecords(), make([]int, many)); e != api.ErrOrder {
		t.Error(e)
	}
	for _, s := range []string{strings.Repeat(" ", many), strings.Repeat("9", many), strings.Repeat("death ", many), "death " + strings.Repeat("0", many) + " - ann 0 0", "child 5 - ann 0 0" + strings.Repeat(" a 1", many)} {
		if d, e := right.ParseDeed(s); !equal(d, api.Deed{}) || e != api.ErrSyntax {
			t.Error(s[:9], d, e)
		}
	}
	if d, e := right.ParseDeed("death 5 - " + strings.Repeat("a", many) + " 0 0"); !equal(d, api.Deed{}) || e != api.ErrName {
		t.Error(d, e)
	}
}

// R2 (P1): as many deeds and ways from parents to children as there may be end soon.
func TestManyWays(t *testing.T) {
	// each of 20 people is a child of the two before it, and all but the last one are dead
	var l []api.Deed
	for i := range 20 {
		l = append(l, child(0, numbered("c", i), numbered("c", i+1)))
		if i > 0 {
			l = append(l, child(0, numbered("c", i-1), numbered("c", i+1)), death(0, numbered("c", i)))
		}
	}
	r := api.Rights{Laws: []api.Law{law(0, true, 0, 1)}, Deeds: l}
	inherits(t, r, "c0", 0, part("c20", 1, 1))
	r.Deeds = with(r.Deeds, death(0, "c20"))
	inherits(t, r, "c0", 0, part("", 1, 1))
	if l, e := right.Descendants(r, "c0", 0); len(l) != 20 || e != api.OK {
		t.Error(l, e)
	}
	r.Deeds = with(deeds(family(0, "p", "c0")), r.Deeds...)
	if l, e := right.Tenures(r, "p"); len(l) != 1 || e != api.OK {
		t.Error(l, e)
	}
	if is, e := right.MayBury(r, "p", "c20", 0); !is || e != api.OK {
		t.Error(is, e)
	}
}

// anyNumber is a small number, or one that no function may stumble over.
func anyNumber(r *rand.Rand) int {
	if r.Intn(10) == 0 {
		return pickOne(r, extremes)
	}
	return r.Intn(10)
}

func anyName(r *rand.Rand) string {
	switch r.Intn(12) {
	case 0:
		return pickOne(r, wrongNames)
	case 1, 2, 3:
		return ""
	}
	return pickOne(r, someNames)
}

func anyFrac(r *rand.Rand) api.Frac {
	if r.Intn(2) == 0 {
		return api.Frac{}
	}
	return frac(anyNumber(r), anyNumber(r))
}

func anyDeed(r *rand.Rand) api.Deed {
	d := api.Deed{Kind: anyNumber(r), Day: anyNumber(r), Place: anyName(r), From: anyName(r), Class: anyNumber(r), Years: anyNumber(r)}
	d.To = repeat(r.Intn(4), func(int) api.Part { return api.Part{Name: anyName(r), Share: anyFrac(r)} })
	return d
}

func anyRecord(r *rand.Rand) api.Record {
	return api.Record{Kind: anyNumber(r), Name: anyName(r), Other: anyName(r), Place: anyName(r), Day: anyNumber(r), Until: anyNumber(r), Share: anyFrac(r)}
}

// R2 (P1): nothing panics, whatever the arguments are.
func TestAnyArguments(t *testing.T) {
	r := rand.New(rand.NewSource(11))
	for range 2000 {
		rights := api.Rights{Laws: repeat(r.Intn(2), func(int) api.Law { return api.Law{From: anyNumber(r), Spouse: anyFrac(r)} })}
		rights.Deeds = repeat(r.Intn(3), func(int) api.Deed { return anyDeed(r) })
		l := repeat(r.Intn(4), func(int) api.Record { return anyRecord(r) })
		everything(rights, anyDeed(r), l, repeat(r.Intn(4), func(int) int { return anyNumber(r) }))
	}
}
