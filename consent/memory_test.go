package consent_test

import (
	"math/rand"
	"reflect"
	"slices"
	"strings"
	"testing"

	"mortsafe/api"
	"mortsafe/consent"
)

// roomy returns a list with room behind its end, in which a careless append would write.
func roomy[T any](l []T, behind T) []T {
	l = append(slices.Clone(l), behind, behind, behind)
	return l[:len(l)-3]
}

// wholeOf returns a list with what is written behind its end.
func wholeOf[T any](l []T) []T { return l[:len(l)+3] }

// roomyRule returns a rule whose lists all have room behind their ends.
func roomyRule(r api.Rule) api.Rule {
	parts := repeat(len(r.Parts), func(i int) api.Rule { return roomyRule(r.Parts[i]) })
	r.Weights, r.Parts = roomy(r.Weights, 77), roomy(parts, person("behind"))
	return r
}

// wholeRule returns a rule with what is written behind the ends of its lists.
func wholeRule(r api.Rule) api.Rule {
	parts := repeat(len(r.Parts), func(i int) api.Rule { return wholeRule(r.Parts[i]) })
	r.Weights, r.Parts = wholeOf(r.Weights), with(parts, wholeOf(r.Parts)[len(r.Parts):]...)
	return r
}

// args are arguments of all functions.
type args struct {
	a, b            api.Rule
	signed, refused []string
	acts            []api.Act
	holders         []string
	shares          []api.Frac
}

func arguments() args {
	return args{
		a:       roomyRule(anyOf(person("c"), sumOf(3, []int{2, 2, 1}, persons("b a d")...), allOf(needless(), never()))),
		b:       roomyRule(sumOf(3, []int{1, 2}, anyOf(persons("d b")...), allOf(persons("e a")...))),
		signed:  roomy(words("a d x"), "behind"),
		refused: roomy(words("b c y"), "behind"),
		acts:    roomy(acts(sign(3, "d"), refuse(3, "c"), sign(4, "b"), sign(4, "a"), unsign(6, "d"), refuse(7, "d"), unsign(8, "b"), refuse(9, "b")), sign(7, "behind")),
		holders: roomy(words("b a c"), "behind"),
		shares:  roomy(fracs(1, 2, 1, 3, 1, 6), frac(7, 7)),
	}
}

// everything is the results of all functions.
func everything(x args) []any {
	of := func(results ...any) []any { return results }
	half := frac(1, 2)
	all := slices.Concat(
		of(consent.OfShares(x.holders, x.shares, half)), of(consent.CheckActs(x.acts)),
		of(consent.Implies(x.a, x.b)), of(consent.Implies(x.b, x.a)), of(consent.Same(x.a, x.b)),
		of(consent.Given(x.a, x.signed, x.refused)), of(consent.Given(x.b, nil, nil)),
		of(consent.Put(x.a, "b", x.b)), of(consent.Put(x.b, "d", x.a)), of(consent.Put(x.a, "a", x.a)),
		of(consent.FirstDay(x.a, x.acts)), of(consent.FirstDay(x.b, x.acts)),
	)
	for day := range 10 {
		all = append(all, of(consent.Signed(x.acts, day))...)
		all = append(all, of(consent.State(x.a, x.acts, day))...)
	}
	for _, r := range []api.Rule{x.a, x.b} {
		printed, _ := consent.Print(r)
		all = slices.Concat(all,
			of(consent.CheckRule(r)), of(consent.People(r)), of(consent.Enough(r, x.signed)), of(consent.Blocks(r, x.refused)),
			of(consent.Smallest(r)), of(consent.Refusals(r)), of(consent.Indispensable(r)), of(consent.Idle(r)),
			of(consent.Dual(r)), of(consent.Normal(r)), of(consent.Counts(r)), of(printed), of(consent.Parse(printed)),
		)
	}
	return all
}

// withRoom are arguments with what is written behind their ends.
func withRoom(x args) args {
	return args{
		a: wholeRule(x.a), b: wholeRule(x.b),
		signed: wholeOf(x.signed), refused: wholeOf(x.refused),
		acts:    wholeOf(x.acts),
		holders: wholeOf(x.holders), shares: wholeOf(x.shares),
	}
}

// R3 (P1): no function writes into its arguments, or behind them.
func TestArgumentsStay(t *testing.T) {
	x := arguments()
	for _, result := range everything(x) {
		if e, is := result.(api.Errno); is && e != api.OK && e != api.ErrNone { // of FirstDay
			t.Error(e)
		}
	}
	if got, want := withRoom(x), withRoom(arguments()); !reflect.DeepEqual(got, want) {
		t.Error(got, want)
	}
}

// spoil fills a list, up to its capacity, with zeros, and all lists in it.
func spoil(v reflect.Value) {
	switch v.Kind() {
	case reflect.Slice:
		all := v.Slice(0, v.Cap())
		for i := range all.Len() {
			if i < v.Len() {
				spoil(all.Index(i))
			}
			all.Index(i).SetZero()
		}
	case reflect.Struct:
		for i := range v.NumField() {
			spoil(v.Field(i))
		}
	}
}

// R3 (P1): writing into results, or behind them, changes no argument and no other result.
func TestResultsAreApart(t *testing.T) {
	x := arguments()
	first, want := everything(x), everything(arguments())
	for _, result := range everything(x) {
		spoil(reflect.ValueOf(result))
	}
	if !reflect.DeepEqual(first, want) || !reflect.DeepEqual(everything(x), want) {
		t.Error(first)
	}
	if got, args := withRoom(x), withRoom(arguments()); !reflect.DeepEqual(got, args) {
		t.Error(got, args)
	}
}

// R3 (P1): rules that results are made of again share no memory with them.
func TestLeavesAreApart(t *testing.T) {
	leaf := api.Rule{Person: "a", Weights: make([]int, 0, 3), Parts: make([]api.Rule, 0, 3)}
	gate := api.Rule{Kind: api.RuleAll, Weights: make([]int, 0, 3), Parts: append(make([]api.Rule, 0, 3), leaf)}
	for _, ask := range []func() (api.Rule, api.Errno){
		func() (api.Rule, api.Errno) { return consent.Dual(gate) },
		func() (api.Rule, api.Errno) { return consent.Given(gate, nil, nil) },
		func() (api.Rule, api.Errno) { return consent.Put(gate, "a", gate) },
		func() (api.Rule, api.Errno) { return consent.Put(leaf, "a", leaf) },
		func() (api.Rule, api.Errno) { return consent.Dual(leaf) },
	} {
		r, e := ask()
		if e != api.OK {
			t.Fatal(e)
		}
		spoilLeaf(r)
		if !slices.Equal(leaf.Weights[:3], make([]int, 3)) || !slices.Equal(gate.Weights[:3], make([]int, 3)) || !reflect.DeepEqual(leaf.Parts[:3], make([]api.Rule, 3)) || gate.Parts[0].Person != "a" || gate.Parts[:3][1].Person != "" {
			t.Error(leaf, gate)
		}
	}
}

// spoilLeaf writes behind all lists of a rule.
func spoilLeaf(r api.Rule) {
	r.Weights = append(r.Weights, 77, 77)
	for i := range r.Parts {
		spoilLeaf(r.Parts[i])
		r.Parts[i].Person = "spoilt"
	}
	r.Parts = append(r.Parts, person("spoilt"), person("spoilt"))
}

// listsOf returns all lists in results, each one by itself.
func listsOf(v reflect.Value) []reflect.Value {
	var l []reflect.Value
	switch v.Kind() {
	case reflect.Interface:
		return listsOf(v.Elem())
	case reflect.Slice:
		l = append(l, v)
		for i := range v.Len() {
			l = append(l, listsOf(v.Index(i))...)
		}
	case reflect.Struct:
		for i := range v.NumField() {
			l = append(l, listsOf(v.Field(i))...)
		}
	}
	return l
}

// R3 (P1): the lists of one result are apart, too: no two of them have memory in common,
// also behind their ends.
func TestListsOfOneResultAreApart(t *testing.T) {
	for _, ask := range []func() []any{
		func() []any { l, _ := consent.Smallest(someOf(3, "a b c d e f")); return []any{l} },
		func() []any { l, _ := consent.Refusals(someOf(3, "a b c d e f")); return []any{l} },
		func() []any { a, b, _ := consent.Signed(arguments().acts, 6); return []any{a, b} },
		func() []any { r, _ := consent.Normal(someOf(2, "a b c d")); return []any{r} },
		func() []any { r, _ := consent.Put(allOf(persons("a b a a")...), "a", arguments().b); return []any{r} },
		func() []any { r, _ := consent.Put(arguments().b, "d", arguments().b); return []any{r} },
		func() []any { r, _ := consent.Given(arguments().b, words("a"), words("b")); return []any{r} },
		func() []any { r, _ := consent.Dual(arguments().a); return []any{r} },
		func() []any {
			r, _ := consent.Parse("any(all(a, b), 3 of (1 all(a, b, c), 2 any(), 2 all(d)), all(e))")
			return []any{r}
		},
	} {
		taken := map[uintptr]bool{}
		lists := listsOf(reflect.ValueOf(ask()))
		if len(lists) < 3 {
			t.Fatal(lists)
		}
		for _, l := range lists {
			size := l.Type().Elem().Size()
			for i := range uintptr(l.Cap()) {
				if at := l.Pointer() + i*size; taken[at] {
					t.Fatal("shared", l)
				} else {
					taken[at] = true
				}
			}
		}
	}
}

// R4 (P1): the same arguments give the same results, also where maps are used.
func TestResultsAreRepeated(t *testing.T) {
	first := everything(arguments())
	r := anyOf(someOf(3, "f c a e b d"), allOf(persons("h g")...))
	l := repeat(40, func(i int) api.Act { return sign(5, letters(40)[39-i]) })
	signed, _, _ := consent.Signed(l, 5)
	smallest, _ := consent.Smallest(r)
	for range 30 {
		if got := everything(arguments()); !reflect.DeepEqual(got, first) {
			t.Fatal(got, first)
		}
		again, _, _ := consent.Signed(l, 5)
		sets, _ := consent.Smallest(r)
		if !slices.Equal(again, signed) || !reflect.DeepEqual(sets, smallest) {
			t.Fatal(again, sets)
		}
	}
}

// R5 (P1): nil lists and empty ones are the same.
func TestNoLists(t *testing.T) {
	gates := []api.Rule{{Kind: api.RuleAll}, {Kind: api.RuleAll, Weights: []int{}, Parts: []api.Rule{}}, {Kind: api.RuleSum}, {Kind: api.RuleSum, Weights: []int{}, Parts: []api.Rule{}}, sumOf(0, []int{}), sumOf(0, nil, []api.Rule{}...)}
	for _, r := range gates {
		for _, l := range [][]string{nil, {}} {
			is, e := consent.Enough(r, l)
			check(t, "Enough of none", is, e, true)
			is, e = consent.Blocks(r, l)
			check(t, "Blocks of none", is, e, false)
			left, e := consent.Given(r, l, l)
			check(t, "Given none", left, e, api.Rule{Kind: r.Kind})
			built, e := consent.OfShares(l, nil, frac(1, 2))
			checkError(t, "OfShares of none", []any{built}, e, api.ErrShape)
		}
		for _, l := range [][]api.Act{nil, {}} {
			n, set, e := consent.State(r, l, 3)
			check(t, "State of no acts", set, e, []string(nil))
			check(t, "its number", n, e, 1)
			signed, refused, e := consent.Signed(l, 3)
			check(t, "Signed of no acts", len(signed)+len(refused), e, 0)
		}
		for _, x := range allAsked() {
			if l, e := x.ask(r); e != api.OK && x.what != "Put into" {
				t.Error(x.what, l, e)
			}
		}
	}
}

// R2 (P1): whatever the arguments are, all functions end and do not panic.
func TestAnyArguments(t *testing.T) {
	r := rand.New(rand.NewSource(16))
	anyNumber := func() int {
		if r.Intn(10) == 0 {
			return pickOne(r, extremes)
		}
		return r.Intn(5)
	}
	anyName := func(int) string { return pickOne(r, with(wrongNames, "a", "b", "c", "d", "a", "b", "c")) }
	anyFrac := func(int) api.Frac { return frac(anyNumber(), anyNumber()) }
	var anyRule func(deep int) api.Rule
	anyRule = func(deep int) api.Rule {
		x := api.Rule{Kind: anyNumber()}
		if x.Kind == 0 || r.Intn(20) == 0 {
			x.Person = pickOne(r, words("a b c d e 1"))
		}
		for range r.Intn(4) {
			if deep > 0 && (x.Kind != 0 || r.Intn(20) == 0) {
				x.Parts = append(x.Parts, anyRule(deep-1))
			}
		}
		if x.Kind == api.RuleSum || r.Intn(20) == 0 {
			x.Need, x.Weights = anyNumber(), repeat(len(x.Parts)+r.Intn(8)/7, func(int) int { return anyNumber() })
		}
		return x
	}
	errors := map[api.Errno]int{}
	for range 20000 {
		a, b, l := anyRule(3), anyRule(3), repeat(r.Intn(5), func(int) api.Act { return act(anyNumber(), anyNumber(), anyName(0)) })
		names := repeat(r.Intn(4), anyName)
		for _, x := range allAsked() {
			_, e := x.ask(a)
			errors[e]++
		}
		consent.Enough(a, names)
		consent.Blocks(a, names)
		consent.Implies(a, b)
		consent.Same(a, b)
		consent.Given(a, names, repeat(r.Intn(4), anyName))
		consent.Put(a, anyName(0), b)
		consent.OfShares(names, repeat(len(names), anyFrac), anyFrac(0))
		consent.Signed(l, anyNumber())
		consent.State(a, l, anyNumber())
		consent.FirstDay(a, l)
		consent.Parse(strings.Join(names, pickOne(r, []string{"(", ")", ", ", " of ("})))
	}
	if len(errors) < 6 {
		t.Error(errors)
	}
}
