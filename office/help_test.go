package office_test

import (
	"math"
	"math/rand"
	"reflect"
	"slices"
	"testing"

	"mortsafe/api"
	"mortsafe/office"
)

// extremes are numbers that no function may stumble over.
var extremes = []int{math.MinInt, math.MinInt + 1, -1, math.MaxInt - 1, math.MaxInt}

// noDays are numbers that are no days.
var noDays = with(extremes, 200001)

// wrongNames are texts that are no names.
var wrongNames = []string{"", "-", "1", "-a", "1a", "a b", " ", "a ", " a", "a\n", "a.", "a_b", "a(", "é", "aé", "a\x00", "\xff", "abcdefghijklm"}

// rightNames are names.
var rightNames = []string{"a", "Z", "ann", "a-", "a1", "A-9-z", "abcdefghijkl"}

// yard is that of chapter 3's examples.
func yard() api.Yard {
	return api.Yard{
		Sites: []api.Site{
			{Name: "a", Soil: 1, Depth: 240, Step: 80, Room: 3}, {Name: "v", Kind: api.SiteVault, Room: 2},
			{Name: "n", Kind: api.SiteNiche, Room: 2}, {Name: "s", Kind: api.SiteScatter, Room: 1},
		},
		Rests:  []api.Rest{{Soil: 1, Container: api.Coffin, Days: 7300}, {Soil: 1, Container: api.Urn, Days: 3650}},
		Covers: [3]int{150, 60, 0},
	}
}

// base is that of the chapter's examples.
func base() api.Base { return api.Base{Yard: yard(), Notes: 3} }

// quarters is the base with a law by which a spouse has a quarter beside descendants.
func quarters() api.Base {
	b := base()
	b.Laws = []api.Law{{Spouse: api.Frac{Num: 1, Den: 4}}}
	return b
}

func entry(office string, number, entered, day int, text string) api.Entry {
	return api.Entry{Office: office, Number: number, Entered: entered, Day: day, Text: text}
}

func key(office string, number int) api.Key { return api.Key{Office: office, Number: number} }

// story is the entries of the chapter's examples, in canonical order.
func story() []api.Entry {
	return []api.Entry{
		entry("lodge", 1, 150, 150, "grave bury 150 a 1 z 0"),
		entry("main", 1, 100, 100, "grave bury 100 a 0 x 0"),
		entry("main", 2, 205, 200, "grave bury 200 a 1 y 0"),
		entry("main", 3, 300, 300, "withdraw lodge 1"),
	}
}

// numberedFrom returns entries of an office, entered on the days from which they hold.
func numberedFrom(office string, day int, texts ...string) []api.Entry {
	return repeat(len(texts), func(i int) api.Entry { return entry(office, i+1, day, day, texts[i]) })
}

// many returns right entries of an office.
func many(office string, n int) []api.Entry {
	return repeat(n, func(i int) api.Entry { return entry(office, i+1, i, 5, "person same 0 1") })
}

func query(kind int, name string, known, day int) api.Query {
	return api.Query{Kind: kind, Name: name, At: [2]int{known, day}}
}

func classOf(number, known, day int) api.Query {
	return api.Query{Kind: api.AskClass, Number: number, At: [2]int{known, day}}
}

func finding(answer string, keys ...api.Key) api.Finding {
	return api.Finding{Answer: answer, Keys: keys}
}

// change returns a value with a change.
func change[T any](x T, how func(*T)) T {
	how(&x)
	return x
}

// check compares a result, and expects no error.
func check(t *testing.T, what string, got any, e api.Errno, want any) {
	t.Helper()
	if !equal(got, want) || e != api.OK {
		t.Errorf("%s: %v %d, not %v", what, got, e, want)
	}
}

// checkError compares an error, beside which there must be no result.
func checkError(t *testing.T, what string, results []any, e, want api.Errno) {
	t.Helper()
	if e != want || slices.ContainsFunc(results, isSomething) {
		t.Errorf("%s: %v %d, not %d", what, results, e, want)
	}
}

// checkAnswer compares a result and an error.
func checkAnswer(t *testing.T, what string, got any, e api.Errno, want any, wrong api.Errno) {
	t.Helper()
	if wrong == api.OK {
		check(t, what, got, e, want)
	} else {
		checkError(t, what, []any{got}, e, wrong)
	}
}

// equal compares two values, of which nil and empty lists are the same.
func equal(a, b any) bool { return alike(reflect.ValueOf(a), reflect.ValueOf(b)) }

func alike(a, b reflect.Value) bool {
	if a.Type() != b.Type() {
		return false
	}
	switch a.Kind() {
	case reflect.Slice:
		if a.Len() != b.Len() {
			return false
		}
		for i := range a.Len() {
			if !alike(a.Index(i), b.Index(i)) {
				return false
			}
		}
		return true
	case reflect.Struct:
		for i := range a.NumField() {
			if !alike(a.Field(i), b.Field(i)) {
				return false
			}
		}
		return true
	}
	return a.Interface() == b.Interface()
}

// isSomething tells whether a result is neither a zero value nor an empty list.
func isSomething(result any) bool {
	return !equal(result, reflect.Zero(reflect.TypeOf(result)).Interface())
}

// with returns a list with something else behind it, in memory of its own.
func with[T any](l []T, further ...T) []T { return slices.Concat(l, further) }

func repeat[T any](n int, what func(i int) T) []T {
	var l []T
	for i := range n {
		l = append(l, what(i))
	}
	return l
}

// countUp returns the numbers from 0 on.
func countUp(n int) []int { return repeat(n, func(i int) int { return i }) }

func pickOne[T any](r *rand.Rand, l []T) T { return l[r.Intn(len(l))] }

// results parts what a function returned from its error.
func results(l ...any) ([]any, api.Errno) {
	return l[:len(l)-1], l[len(l)-1].(api.Errno)
}

// asked is a function of an argument. Its further arguments are wrong, so that the errors of
// the argument have to be told before theirs.
type asked[T any] struct {
	what string
	ask  func(x T) ([]any, api.Errno)
}

// checkAll expects an error of all functions.
func checkAll[T any](t *testing.T, what string, all []asked[T], x T, want api.Errno) {
	t.Helper()
	for _, f := range all {
		got, e := f.ask(x)
		checkError(t, f.what+" of "+what, got, e, want)
	}
}

// Arguments that are wrong.
func wrongBase() api.Base       { return api.Base{Notes: -1} }
func wrongEntries() []api.Entry { return make([]api.Entry, 301) }
func wrongDays() [2]int         { return [2]int{-1, -1} }
func wrongQuery() api.Query     { return api.Query{Kind: -1, Number: -1, At: wrongDays()} }
func wrongFinding() api.Finding { return finding("wrong", key("", 0), key("", 0)) }

// allOfBases are all functions of a base.
func allOfBases() []asked[api.Base] {
	return []asked[api.Base]{
		{"CheckBase", func(b api.Base) ([]any, api.Errno) { return results(office.CheckBase(b)) }},
		{"State", func(b api.Base) ([]any, api.Errno) { return results(office.State(b, wrongEntries(), wrongDays())) }},
		{"Answer", func(b api.Base) ([]any, api.Errno) { return results(office.Answer(b, wrongEntries(), wrongQuery())) }},
		{"Search", func(b api.Base) ([]any, api.Errno) { return results(office.Search(b, wrongEntries(), wrongQuery())) }},
		{"CheckSearch", func(b api.Base) ([]any, api.Errno) {
			return results(office.CheckSearch(b, wrongEntries(), wrongQuery(), wrongFinding()))
		}},
		{"Register", func(b api.Base) ([]any, api.Errno) { return results(office.Register(b, wrongEntries(), wrongDays())) }},
		{"Map", func(b api.Base) ([]any, api.Errno) { return results(office.Map(b, wrongEntries(), wrongDays())) }},
		{"Ledger", func(b api.Base) ([]any, api.Errno) { return results(office.Ledger(b, wrongEntries(), wrongDays())) }},
		{"New", func(b api.Base) ([]any, api.Errno) {
			o, e := office.New("", b)
			return []any{o}, e
		}},
	}
}

// allOfEntries are all functions of entries.
func allOfEntries() []asked[[]api.Entry] {
	return []asked[[]api.Entry]{
		{"CheckEntries", func(l []api.Entry) ([]any, api.Errno) { return results(office.CheckEntries(l)) }},
		{"Merge", func(l []api.Entry) ([]any, api.Errno) { return results(office.Merge(l, wrongEntries())) }},
		{"Merge behind", func(l []api.Entry) ([]any, api.Errno) { return results(office.Merge(many("other", 300), l)) }},
		{"Merge behind nothing", func(l []api.Entry) ([]any, api.Errno) { return results(office.Merge(nil, l)) }},
		{"Withdrawn", func(l []api.Entry) ([]any, api.Errno) { return results(office.Withdrawn(l, -1)) }},
		{"Facts", func(l []api.Entry) ([]any, api.Errno) { return results(office.Facts(l, -1)) }},
		{"State", func(l []api.Entry) ([]any, api.Errno) { return results(office.State(base(), l, wrongDays())) }},
		{"Answer", func(l []api.Entry) ([]any, api.Errno) { return results(office.Answer(base(), l, wrongQuery())) }},
		{"Search", func(l []api.Entry) ([]any, api.Errno) { return results(office.Search(base(), l, wrongQuery())) }},
		{"CheckSearch", func(l []api.Entry) ([]any, api.Errno) {
			return results(office.CheckSearch(base(), l, wrongQuery(), wrongFinding()))
		}},
		{"Register", func(l []api.Entry) ([]any, api.Errno) { return results(office.Register(base(), l, wrongDays())) }},
		{"Map", func(l []api.Entry) ([]any, api.Errno) { return results(office.Map(base(), l, wrongDays())) }},
		{"Ledger", func(l []api.Entry) ([]any, api.Errno) { return results(office.Ledger(base(), l, wrongDays())) }},
		{"Journal", func(l []api.Entry) ([]any, api.Errno) { return results(office.Journal(l)) }},
		{"Take", func(l []api.Entry) ([]any, api.Errno) {
			o, _ := office.New("a", base())
			e := o.Take(l)
			return []any{o.Entries()}, e
		}},
	}
}

// allOfDays are all functions of a pair of days.
func allOfDays() []asked[[2]int] {
	return []asked[[2]int]{
		{"State", func(at [2]int) ([]any, api.Errno) { return results(office.State(base(), story(), at)) }},
		{"Register", func(at [2]int) ([]any, api.Errno) { return results(office.Register(base(), story(), at)) }},
		{"Map", func(at [2]int) ([]any, api.Errno) { return results(office.Map(base(), story(), at)) }},
		{"Ledger", func(at [2]int) ([]any, api.Errno) { return results(office.Ledger(base(), story(), at)) }},
		{"Map of nothing", func(at [2]int) ([]any, api.Errno) { return results(office.Map(api.Base{}, nil, at)) }},
	}
}

// allOfQueries are all functions of a query.
func allOfQueries() []asked[api.Query] {
	return []asked[api.Query]{
		{"Answer", func(q api.Query) ([]any, api.Errno) { return results(office.Answer(base(), story(), q)) }},
		{"Search", func(q api.Query) ([]any, api.Errno) { return results(office.Search(base(), many("a", 300), q)) }},
		{"CheckSearch", func(q api.Query) ([]any, api.Errno) {
			return results(office.CheckSearch(base(), story(), q, wrongFinding()))
		}},
	}
}
