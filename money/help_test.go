package money_test

import (
	"math"
	"math/rand"
	"reflect"
	"slices"
	"strconv"
	"testing"

	"mortsafe/api"
	"mortsafe/money"
)

// extremes are numbers that no function may stumble over.
var extremes = []int{math.MinInt, math.MinInt + 1, -1, math.MaxInt - 1, math.MaxInt}

// noDays are numbers that are no days.
var noDays = with(extremes, 200001)

// noCents are numbers that are no amounts.
var noCents = with(extremes, 1000000000001)

// wrongNames are texts that are no names.
var wrongNames = []string{"", "-", "1", "-a", "1a", "a b", " ", "a ", " a", "a\n", "a.", "a_b", "a(", "é", "aé", "a\x00", "\xff", "abcdefghijklm"}

// rightNames are names.
var rightNames = []string{"a", "Z", "ann", "a-", "a1", "A-9-z", "abcdefghijkl"}

func rate(class string, from, cents int) api.Rate {
	return api.Rate{Class: class, From: from, Cents: cents}
}

// rates are a tariff with the rates of the first example, and a class whose rate is the same for
// a while, and then 0.
func rates() []api.Rate {
	return []api.Rate{rate("grave", 365, 120000), rate("urn", 20, 500), rate("grave", 0, 100000), rate("urn", 10, 500), rate("urn", 30, 0)}
}

// longTariff is a right tariff.
func longTariff(n int) []api.Rate {
	return repeat(n, func(i int) api.Rate { return rate("c"+strconv.Itoa(i%7), i, i) })
}

func remission(class string, from, to, perMille int) api.Remission {
	return api.Remission{Class: class, From: from, To: to, PerMille: perMille}
}

func charge(class string, day, units int) api.Charge {
	return api.Charge{Class: class, Day: day, Units: units}
}

// dues are amounts, told by day and cents.
func dues(l ...[2]int) []api.Due {
	return repeat(len(l), func(i int) api.Due { return api.Due{Day: l[i][0], Cents: l[i][1]} })
}

// instalments are those of the third and the fourth example.
func instalments() []api.Due { return dues([2]int{10, 34}, [2]int{40, 33}, [2]int{70, 33}) }

func posting(day, cents int, debit, credit string) api.Posting {
	return api.Posting{Day: day, Cents: cents, Debit: debit, Credit: credit}
}

// ledger begins with the posting of the last example.
func ledger() []api.Posting {
	return []api.Posting{posting(3, 500, "fees", "bank"), posting(5, 200, "bank", "cash"), posting(5, 7, "cash", "fees")}
}

// longLedger is a right ledger.
func longLedger(n int) []api.Posting {
	return repeat(n, func(i int) api.Posting { return posting(i, i+1, "a"+strconv.Itoa(i%3), "b"+strconv.Itoa(i%5)) })
}

func gift(day int, holder string, units, cents int) api.FundEvent {
	return api.FundEvent{Day: day, Kind: api.FundGift, Units: units, Cents: cents, Holder: holder}
}

func income(day, cents int) api.FundEvent {
	return api.FundEvent{Day: day, Kind: api.FundIncome, Cents: cents}
}

func spending(day int, holder string, cents int) api.FundEvent {
	return api.FundEvent{Day: day, Kind: api.FundSpend, Cents: cents, Holder: holder}
}

func fee(day, cents int) api.FundEvent {
	return api.FundEvent{Day: day, Kind: api.FundFee, Cents: cents}
}

// fund is that of the sixth example.
func fund() []api.FundEvent {
	return []api.FundEvent{gift(1, "a", 3, 300000), gift(5, "b", 1, 100000), fee(6, 50), income(9, 450)}
}

// longFund is a right fund of one holder.
func longFund(n int) []api.FundEvent {
	return repeat(n, func(i int) api.FundEvent { return gift(i, "a", 1, 1) })
}

// change returns a value with a change.
func change[T any](x T, how func(*T)) T {
	how(&x)
	return x
}

// check compares a result, and expects no error.
func check(t *testing.T, what string, got any, e api.Errno, want any) {
	t.Helper()
	if !equal(got, want) || e != api.OK {
		t.Errorf("%s: %v %d, not %v", what, got, e, want)
	}
}

// checkError compares an error, beside which there must be no result.
func checkError(t *testing.T, what string, results []any, e, want api.Errno) {
	t.Helper()
	if e != want || slices.ContainsFunc(results, isSomething) {
		t.Errorf("%s: %v %d, not %d", what, results, e, want)
	}
}

// checkAnswer compares a result and an error.
func checkAnswer(t *testing.T, what string, got any, e api.Errno, want any, wrong api.Errno) {
	t.Helper()
	if wrong == api.OK {
		check(t, what, got, e, want)
	} else {
		checkError(t, what, []any{got}, e, wrong)
	}
}

// equal compares two values, of which nil and empty lists are the same.
func equal(a, b any) bool { return alike(reflect.ValueOf(a), reflect.ValueOf(b)) }

func alike(a, b reflect.Value) bool {
	if a.Type() != b.Type() {
		return false
	}
	switch a.Kind() {
	case reflect.Slice:
		if a.Len() != b.Len() {
			return false
		}
		for i := range a.Len() {
			if !alike(a.Index(i), b.Index(i)) {
				return false
			}
		}
		return true
	case reflect.Struct:
		for i := range a.NumField() {
			if !alike(a.Field(i), b.Field(i)) {
				return false
			}
		}
		return true
	}
	return a.Interface() == b.Interface()
}

// isSomething tells whether a result is neither a zero value nor an empty list.
func isSomething(result any) bool {
	return !equal(result, reflect.Zero(reflect.TypeOf(result)).Interface())
}

// with returns a list with something else behind it, in memory of its own.
func with[T any](l []T, further ...T) []T { return slices.Concat(l, further) }

func repeat[T any](n int, what func(i int) T) []T {
	var l []T
	for i := range n {
		l = append(l, what(i))
	}
	return l
}

// countUp returns the numbers from 0 on.
func countUp(n int) []int { return repeat(n, func(i int) int { return i }) }

func pickOne[T any](r *rand.Rand, l []T) T { return l[r.Intn(len(l))] }

// results parts what a function returned from its error.
func results(l ...any) ([]any, api.Errno) {
	return l[:len(l)-1], l[len(l)-1].(api.Errno)
}

// asked is a function of an argument. Its further arguments are wrong, so that the errors of
// the argument have to be told before theirs.
type asked[T any] struct {
	what string
	ask  func(x T) ([]any, api.Errno)
}

// checkAll expects an error of all functions.
func checkAll[T any](t *testing.T, what string, all []asked[T], x T, want api.Errno) {
	t.Helper()
	for _, f := range all {
		got, e := f.ask(x)
		checkError(t, f.what+" of "+what, got, e, want)
	}
}

// Arguments that are wrong.
func wrongRates() []api.Rate           { return make([]api.Rate, 1) }
func wrongRemissions() []api.Remission { return make([]api.Remission, 1) }
func wrongCharges() []api.Charge       { return make([]api.Charge, 61) }
func wrongDues() []api.Due             { return make([]api.Due, 121) }

// allOfRates are all functions of rates.
func allOfRates() []asked[[]api.Rate] {
	return []asked[[]api.Rate]{
		{"CheckRates", func(l []api.Rate) ([]any, api.Errno) { return results(money.CheckRates(l)) }},
		{"RateOf", func(l []api.Rate) ([]any, api.Errno) { return results(money.RateOf(l, "", -1)) }},
		{"Until", func(l []api.Rate) ([]any, api.Errno) { return results(money.Until(l, "", -1)) }},
		{"Fee", func(l []api.Rate) ([]any, api.Errno) {
			return results(money.Fee(l, make([]api.Remission, 101), wrongCharges()))
		}},
		{"Fee of nothing", func(l []api.Rate) ([]any, api.Errno) { return results(money.Fee(l, nil, nil)) }},
		{"Print", func(l []api.Rate) ([]any, api.Errno) { return results(money.Print(l)) }},
	}
}

// allOfRemissions are all functions of remissions.
func allOfRemissions() []asked[[]api.Remission] {
	return []asked[[]api.Remission]{
		{"CheckRemissions", func(l []api.Remission) ([]any, api.Errno) { return results(money.CheckRemissions(l)) }},
		{"Remitted", func(l []api.Remission) ([]any, api.Errno) { return results(money.Remitted(l, "", -1)) }},
		{"Fee", func(l []api.Remission) ([]any, api.Errno) { return results(money.Fee(rates(), l, wrongCharges())) }},
		{"Fee of nothing", func(l []api.Remission) ([]any, api.Errno) { return results(money.Fee(nil, l, nil)) }},
	}
}

// allOfDues are all functions of dues, or of payments.
func allOfDues() []asked[[]api.Due] {
	return []asked[[]api.Due]{
		{"CheckDues", func(l []api.Due) ([]any, api.Errno) { return results(money.CheckDues(l)) }},
		{"Open", func(l []api.Due) ([]any, api.Errno) { return results(money.Open(l, wrongDues(), -1)) }},
		{"Open of payments", func(l []api.Due) ([]any, api.Errno) { return results(money.Open(instalments(), l, -1)) }},
		{"Open of payments alone", func(l []api.Due) ([]any, api.Errno) { return results(money.Open(nil, l, 0)) }},
		{"Cover", func(l []api.Due) ([]any, api.Errno) { return results(money.Cover(l, wrongDues())) }},
		{"Cover by payments", func(l []api.Due) ([]any, api.Errno) { return results(money.Cover(instalments(), l)) }},
		{"Cover of nothing", func(l []api.Due) ([]any, api.Errno) { return results(money.Cover(nil, l)) }},
	}
}

// allOfLedgers are all functions of a ledger, which is wrong before what is posted.
func allOfLedgers() []asked[[]api.Posting] {
	return []asked[[]api.Posting]{
		{"CheckPostings", func(l []api.Posting) ([]any, api.Errno) { return results(money.CheckPostings(l)) }},
		{"Post", func(l []api.Posting) ([]any, api.Errno) { return results(money.Post(l, api.Posting{Day: -1})) }},
		{"Balance", func(l []api.Posting) ([]any, api.Errno) { return results(money.Balance(l, "", -1)) }},
		{"Trial", func(l []api.Posting) ([]any, api.Errno) { return results(money.Trial(l, -1)) }},
		{"Reverse", func(l []api.Posting) ([]any, api.Errno) { return results(money.Reverse(l, -1, -1)) }},
	}
}

// allOfFunds are all functions of a fund.
func allOfFunds() []asked[[]api.FundEvent] {
	return []asked[[]api.FundEvent]{
		{"CheckFund", func(l []api.FundEvent) ([]any, api.Errno) { return results(money.CheckFund(l)) }},
		{"Holdings", func(l []api.FundEvent) ([]any, api.Errno) { return results(money.Holdings(l, -1)) }},
		{"Capital", func(l []api.FundEvent) ([]any, api.Errno) { return results(money.Capital(l, -1)) }},
		{"May", func(l []api.FundEvent) ([]any, api.Errno) { return results(money.May(l, "", -1)) }},
		{"Merge", func(l []api.FundEvent) ([]any, api.Errno) { return results(money.Merge(l, make([]api.FundEvent, 201))) }},
		{"Merge behind", func(l []api.FundEvent) ([]any, api.Errno) { return results(money.Merge(longFund(200), l)) }},
	}
}
