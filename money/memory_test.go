package money_test

import (
	"math/rand"
	"reflect"
	"slices"
	"strings"
	"testing"

	"mortsafe/api"
	"mortsafe/money"
)

// roomy returns a list with room behind its end, in which a careless append would write.
func roomy[T any](l []T, behind T) []T {
	l = append(slices.Clone(l), behind, behind, behind)
	return l[:len(l)-3]
}

// wholeOf returns a list with what is written behind its end.
func wholeOf[T any](l []T) []T { return l[:len(l)+3] }

// args are arguments of all functions.
type args struct {
	rates        []api.Rate
	remissions   []api.Remission
	charges      []api.Charge
	name         string
	day          int
	cents, count int
	days         [2]int
	dues, paid   []api.Due
	ledger       []api.Posting
	p            api.Posting
	at           int
	units        []int
	a, b         []api.FundEvent
	posting      string
	tariff       string
}

func arguments() args {
	return args{
		rates: roomy(rates(), rate("behind", 77, 77)), remissions: roomy([]api.Remission{remission("urn", 0, 99, 333), remission("grave", 9, 99, 1)}, remission("behind", 7, 77, 7)),
		charges: roomy([]api.Charge{charge("urn", 15, 3), charge("grave", 15, 1)}, charge("behind", 77, 77)), name: "urn", day: 15, cents: 1000, count: 7, days: [2]int{5, 30},
		dues: roomy(instalments(), api.Due{Day: 77, Cents: 77}), paid: roomy(dues([2]int{12, 10}, [2]int{35, 40}), api.Due{Day: 78, Cents: 78}),
		ledger: roomy(ledger(), posting(77, 77, "behind", "it")), p: posting(8, 9, "urn", "bank"), at: 1, units: roomy([]int{3, 2, 2}, 77),
		a: roomy([]api.FundEvent{gift(3, "urn", 3, 5), fee(4, 2), income(5, 10), gift(6, "b", 1, 1), spending(7, "urn", 8)}, gift(77, "behind", 7, 7)),
		b: roomy([]api.FundEvent{gift(6, "b", 2, 0), income(9, 9)}, gift(78, "behind", 8, 8)), posting: "3 500 fees bank", tariff: "grave 365 120000\ngrave 0 100000\n",
	}
}

// everything is the results of all functions.
func everything(x args) []any {
	of := func(results ...any) []any { return results }
	return slices.Concat(
		of(money.CheckRates(x.rates)), of(money.RateOf(x.rates, x.name, x.day)), of(money.Until(x.rates, x.name, x.day)), of(money.CheckRemissions(x.remissions)),
		of(money.Remitted(x.remissions, x.name, x.day)), of(money.Fee(x.rates, x.remissions, x.charges)), of(money.Instalments(x.cents, x.count)),
		of(money.Plan(x.cents, x.count, x.days)), of(money.CheckDues(x.dues)), of(money.Open(x.dues, x.paid, x.day)), of(money.Cover(x.dues, x.paid)),
		of(money.CheckPostings(x.ledger)), of(money.Post(x.ledger, x.p)), of(money.Balance(x.ledger, x.name, x.day)), of(money.Trial(x.ledger, x.day)),
		of(money.Reverse(x.ledger, x.at, x.day)), of(money.FormatPosting(x.p)), of(money.ParsePosting(x.posting)), of(money.Shares(x.units, x.cents)),
		of(money.CheckFund(x.a)), of(money.Holdings(x.a, x.day)), of(money.Capital(x.a, x.day)), of(money.May(x.a, x.name, x.day)), of(money.Merge(x.a, x.b)),
		of(money.Print(x.rates)), of(money.Parse(x.tariff)),
	)
}

// withRoom are arguments with what is written behind their ends.
func withRoom(x args) args {
	x.rates, x.remissions, x.charges = wholeOf(x.rates), wholeOf(x.remissions), wholeOf(x.charges)
	x.dues, x.paid, x.ledger, x.units = wholeOf(x.dues), wholeOf(x.paid), wholeOf(x.ledger), wholeOf(x.units)
	x.a, x.b = wholeOf(x.a), wholeOf(x.b)
	return x
}

// R3 (P1): no function writes into its arguments, or behind them.
func TestArgumentsStay(t *testing.T) {
	x := arguments()
	for i, result := range everything(x) {
		if e, is := result.(api.Errno); is && e != api.OK {
			t.Error(i, e)
		}
	}
	if got, want := withRoom(x), withRoom(arguments()); !reflect.DeepEqual(got, want) {
		t.Error(got, want)
	}
}

// spoil fills a list, up to its capacity, with zeros, and all lists in it.
func spoil(v reflect.Value) {
	switch v.Kind() {
	case reflect.Slice:
		all := v.Slice(0, v.Cap())
		for i := range all.Len() {
			if i < v.Len() {
				spoil(all.Index(i))
			}
			all.Index(i).SetZero()
		}
	case reflect.Struct:
		for i := range v.NumField() {
			spoil(v.Field(i))
		}
	}
}

// R3 (P1): writing into results, or behind them, changes no argument and no other result.
func TestResultsAreApart(t *testing.T) {
	x := arguments()
	before, want := everything(x), everything(arguments())
	for _, result := range everything(x) {
		spoil(reflect.ValueOf(result))
	}
	if !reflect.DeepEqual(before, want) || !reflect.DeepEqual(everything(x), want) {
		t.Error(before)
	}
	if got, args := withRoom(x), withRoom(arguments()); !reflect.DeepEqual(got, args) {
		t.Error(got, args)
	}
}

// R4 (P1): the same arguments give the same results.
func TestResultsAreRepeated(t *testing.T) {
	before := everything(arguments())
	for range 30 {
		if got := everything(arguments()); !reflect.DeepEqual(got, before) {
			t.Fatal(got, before)
		}
	}
}

// R5 (P1): nil lists and empty ones are the same.
func TestNoLists(t *testing.T) {
	some := args{name: "a", day: 5, cents: 5, count: 1, days: [2]int{5, 1}, p: posting(5, 1, "a", "b"), posting: "5 1  "}
	empty := some
	empty.rates, empty.remissions, empty.charges = []api.Rate{}, []api.Remission{}, []api.Charge{}
	empty.dues, empty.paid, empty.ledger, empty.units = []api.Due{}, []api.Due{}, []api.Posting{}, []int{}
	empty.a, empty.b = []api.FundEvent{}, []api.FundEvent{}
	for _, x := range []args{some, empty} {
		got := everything(x)
		want := []any{
			api.OK, 0, api.ErrMissing, 0, api.ErrMissing, api.OK, 0, api.OK, []api.Line{}, 0, api.OK, []int{5}, api.OK, dues([2]int{5, 5}), api.OK,
			api.OK, 0, 0, api.OK, []int{}, api.OK, api.OK, []api.Posting{x.p}, api.OK, 0, api.OK, []string{}, []int{}, api.OK, api.Posting{}, api.ErrMissing,
			"5 1 a b", posting(5, 1, "", ""), api.OK, []int{}, api.ErrShape, api.OK, []api.Holding{}, api.OK, 0, 0, api.OK, 0, []int{}, api.ErrMissing,
			[]api.FundEvent{}, api.OK, "", api.OK, []api.Rate{}, 0, api.OK,
		}
		if len(got) != len(want) {
			t.Fatal(len(got), len(want))
		}
		for i := range want {
			if !equal(got[i], want[i]) {
				t.Error(i, got[i], want[i])
			}
		}
	}
}

// R2 (P1): large arguments end soon, and nothing panics.
func TestLargeArguments(t *testing.T) {
	const many = 1 << 20
	x := args{
		rates: make([]api.Rate, many), remissions: make([]api.Remission, many), charges: make([]api.Charge, many), name: strings.Repeat("a", many), count: 1, days: [2]int{0, 1},
		dues: make([]api.Due, many), paid: make([]api.Due, many), ledger: make([]api.Posting, many), units: make([]int, many), a: make([]api.FundEvent, many),
		b: make([]api.FundEvent, many), posting: strings.Repeat("1", many) + " 1 a b", tariff: strings.Repeat("a 1 1\n", many),
		p: posting(1, 1, strings.Repeat("a", many), strings.Repeat("b", many)),
	}
	for i, result := range everything(x) {
		if e, is := result.(api.Errno); is && e != api.ErrLarge && e != api.OK && e != api.ErrSyntax {
			t.Error(i, e)
		}
	}
	for _, e := range []api.Errno{errorOf(money.Fee(nil, x.remissions, x.charges)), errorOf(money.Fee(nil, nil, x.charges)), errorOf(money.Open(nil, x.paid, 0)), errorOf(money.Merge(nil, x.b))} {
		if e != api.ErrLarge {
			t.Error(e)
		}
	}
	p, e := money.ParsePosting(strings.Repeat(" ", many))
	checkError(t, "ParsePosting", []any{p}, e, api.ErrSyntax)
	n, e := money.RateOf(rates(), x.name, 5)
	checkError(t, "RateOf", []any{n}, e, api.ErrName)
}

// errorOf is the error of what a function returned.
func errorOf(l ...any) api.Errno { return l[len(l)-1].(api.Errno) }

// R2 (P1): whatever the arguments are, all functions end and do not panic.
func TestAnyArguments(t *testing.T) {
	r := rand.New(rand.NewSource(101))
	number := func() int {
		if r.Intn(40) == 0 {
			return pickOne(r, with(extremes, 200000, 200001, 1000000000000))
		}
		return r.Intn(9)
	}
	name := func() string {
		if r.Intn(40) == 0 {
			return pickOne(r, wrongNames)
		}
		return pickOne(r, []string{"a", "b", "c"})
	}
	anyDues := func() []api.Due {
		return repeat(r.Intn(4), func(i int) api.Due { return api.Due{Day: 3*i + number(), Cents: number()} })
	}
	anyFund := func() []api.FundEvent {
		return repeat(r.Intn(5), func(i int) api.FundEvent {
			return pickOne(r, []api.FundEvent{gift(9*i+number(), name(), number(), number()), income(9*i+number(), number()), fee(9*i+number(), number()), spending(9*i+number(), name(), number()),
				{Day: 9*i + number(), Kind: number(), Units: number(), Cents: number(), Holder: name()}})
		})
	}
	errors := map[api.Errno]int{}
	for range 20000 {
		x := args{
			rates:      repeat(r.Intn(4), func(int) api.Rate { return rate(name(), number(), number()) }),
			remissions: repeat(r.Intn(4), func(int) api.Remission { return remission(name(), number()/4, 2+number(), 1+number()) }),
			charges:    repeat(r.Intn(3), func(int) api.Charge { return charge(name(), 4+number(), 1+number()) }),
			name:       name(), day: number(), cents: number(), count: number(), days: [2]int{number(), number()}, dues: anyDues(), paid: anyDues(),
			ledger: repeat(r.Intn(4), func(i int) api.Posting { return posting(7*i+number(), number(), name(), name()) }),
			p:      posting(number(), number(), name(), name()), at: number(), units: repeat(r.Intn(4), func(int) int { return number() }), a: anyFund(), b: anyFund(),
		}
		x.posting, x.tariff = money.FormatPosting(x.p)+pickOne(r, []string{"", "", " "}), strings.Repeat(name()+pickOne(r, []string{" 1 1\n", " 1\n", " 1 1"}), r.Intn(3))
		for _, result := range everything(x) {
			if e, is := result.(api.Errno); is {
				errors[e]++
			}
		}
	}
	for _, e := range []api.Errno{
		api.OK, api.ErrName, api.ErrRange, api.ErrMissing, api.ErrNone, api.ErrForm, api.ErrOrder, api.ErrKind, api.ErrZero, api.ErrStock, api.ErrShape, api.ErrSyntax, api.ErrExists, api.ErrEarly,
	} {
		if errors[e] < 10 {
			t.Error(errors)
		}
	}
}

// R2 (P1): the largest arguments that are right end soon, too.
func TestMostOfAll(t *testing.T) {
	l := with(manyHolders(40), repeat(160, func(i int) api.FundEvent { return income(1, 1000000000000) })...)
	n, shares, e := money.May(l, "h0", 1)
	check(t, "May", n, e, 160*25000000000)
	check(t, "May: shares", shares, e, repeat(160, func(int) int { return 25000000000 }))
	rates := repeat(100, func(i int) api.Rate { return rate("a", i, 1000000) })
	lines, fee, e := money.Fee(rates, repeat(100, func(int) api.Remission { return remission("b", 0, 200000, 1000) }), repeat(60, func(int) api.Charge { return charge("a", 200000, 10000) }))
	check(t, "Fee", fee, e, 600000000000)
	check(t, "Fee: the number of its lines", len(lines), e, 60)
	for _, event := range []api.FundEvent{income(1, 1), gift(1, "h0", 10000, 1)} {
		if e := money.CheckFund(with(l, event)); e != api.ErrLarge {
			t.Error(e)
		}
	}
}
