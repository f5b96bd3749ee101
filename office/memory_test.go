package office_test

import (
	"math/rand"
	"reflect"
	"slices"
	"strconv"
	"strings"
	"testing"

	"mortsafe/api"
	"mortsafe/office"
)

// roomy returns a list with room behind its end, in which a careless append would write.
func roomy[T any](l []T, behind T) []T {
	l = append(slices.Clone(l), behind, behind, behind)
	return l[:len(l)-3]
}

// wholeOf returns a list with what is written behind its end.
func wholeOf[T any](l []T) []T { return l[:len(l)+3] }

// args are arguments of all functions.
type args struct {
	b            api.Base
	l, other     []api.Entry
	e            api.Entry
	day          int
	at           [2]int
	q            api.Query
	f            api.Finding
	text         string
	journal      string
	name         string
	entered      int
	said, ask    string
	why, journey string
}

func arguments() args {
	b := shortRests()
	b.Yard.Sites = roomy(b.Yard.Sites, api.Site{Name: "behind", Room: 1})
	b.Yard.Rests = roomy(b.Yard.Rests, api.Rest{Soil: 7, Days: 7})
	b.Laws = roomy(b.Laws, api.Law{From: 77, Spouse: api.Frac{Num: 1, Den: 7}})
	l := with(numberedFrom("b", 9, "grave bury 9 a 0 x 0", "person same 0 1", "right grant 9 a1 - 1 0 ann 1 2 bob 1 2", "money 9 5 a b", "rule fee 5 9 9", "grave bury 9 a 0 y 0"), entry("a", 1, 9, 9, "withdraw b 2"))
	return args{
		b: b, l: roomy(l, entry("z", 7, 7, 7, "behind")), other: roomy(numberedFrom("c", 9, "person same 1 2", "right death 9 - bob 0 0"), entry("y", 7, 7, 7, "behind")), e: l[0], day: 9, at: [2]int{9, 9},
		q: query(api.AskHolders, "a1", 9, 9), f: finding("ann 1/2, bob 1/2", roomy([]api.Key{key("b", 3)}, key("z", 7))...), text: "b 1 9 9 grave bury 9 a 0 x 0",
		journal: journalOf("a 1 5 5 person same 0 1", "b 1 5 5 person same 0 1") + "x", name: "main", entered: 10, said: "person same 2 3", ask: "ask 10 10 holders a1", why: "why 10 10 site a", journey: "journal",
	}
}

// everything is the results of all functions, and of the methods of an office.
func everything(x args) []any {
	of := func(results ...any) []any { return results }
	all := slices.Concat(
		of(office.CheckBase(x.b)), of(office.CheckEntry(x.e)), of(office.CheckEntries(x.l)), of(office.FormatEntry(x.e)), of(office.ParseEntry(x.text)), of(office.Merge(x.l, x.other)),
		of(office.Withdrawn(x.l, x.day)), of(office.Facts(x.l, x.day)), of(office.State(x.b, x.l, x.at)), of(office.Answer(x.b, x.l, x.q)), of(office.Search(x.b, x.l, x.q)),
		of(office.CheckSearch(x.b, x.l, x.q, x.f)), of(office.Register(x.b, x.l, x.at)), of(office.Map(x.b, x.l, x.at)), of(office.Ledger(x.b, x.l, x.at)), of(office.Journal(x.l)), of(office.Recover(x.journal)),
	)
	o, e := office.New(x.name, x.b)
	return slices.Concat(
		all, of(o != nil, e), of(o.Take(x.l)), of(o.Enter(x.entered, x.day, x.said)), of(o.Undo(x.entered)), of(o.Enter(x.entered, x.day, x.said)), of(o.Take(x.other)), of(o.Entries()), of(o.Entries()),
		of(o.Do(x.ask), o.Do(x.why), o.Do(x.journey), o.Do("undo 10"), o.Do("refused 10 10")),
	)
}

// withRoom are arguments with what is written behind their ends.
func withRoom(x args) args {
	x.b.Yard.Sites, x.b.Yard.Rests, x.b.Laws = wholeOf(x.b.Yard.Sites), wholeOf(x.b.Yard.Rests), wholeOf(x.b.Laws)
	x.l, x.other, x.f.Keys = wholeOf(x.l), wholeOf(x.other), wholeOf(x.f.Keys)
	return x
}

// R3 (P1): no function writes into its arguments, or behind them.
func TestArgumentsStay(t *testing.T) {
	x := arguments()
	for i, result := range everything(x) {
		if e, is := result.(api.Errno); is && e != api.OK {
			t.Error(i, e)
		}
	}
	if got, want := withRoom(x), withRoom(arguments()); !reflect.DeepEqual(got, want) {
		t.Error(got, want)
	}
}

// spoil fills a list, up to its capacity, with zeros, and all lists in it.
func spoil(v reflect.Value) {
	switch v.Kind() {
	case reflect.Slice:
		all := v.Slice(0, v.Cap())
		for i := range all.Len() {
			if i < v.Len() {
				spoil(all.Index(i))
			}
			all.Index(i).SetZero()
		}
	case reflect.Struct:
		for i := range v.NumField() {
			spoil(v.Field(i))
		}
	}
}

// R3 (P1): writing into results, or behind them, changes no argument and no other result.
func TestResultsAreApart(t *testing.T) {
	x := arguments()
	before, want := everything(x), everything(arguments())
	for _, result := range everything(x) {
		spoil(reflect.ValueOf(result))
	}
	if !reflect.DeepEqual(before, want) || !reflect.DeepEqual(everything(x), want) {
		t.Error(before)
	}
	if got, args := withRoom(x), withRoom(arguments()); !reflect.DeepEqual(got, args) {
		t.Error(got, args)
	}
}

// R3 (P1): an office keeps no memory of its arguments, and gives away none of its own.
func TestOfficesAreApart(t *testing.T) {
	x, same := arguments(), arguments()
	o, _ := office.New("main", x.b)
	other, _ := office.New("main", same.b)
	for _, a := range []*office.Office{o, other} {
		if e := a.Take(map[*office.Office]args{o: x, other: same}[a].l); e != api.OK {
			t.Fatal(e)
		}
	}
	for _, l := range []any{x.b, x.l, o.Entries()} {
		spoil(reflect.ValueOf(l))
	}
	further := o.Entries()
	_ = append(further[:1], entry("z", 7, 7, 7, "behind"))
	for _, a := range []*office.Office{o, other} {
		if n, e := a.Enter(10, 10, "grave bury 10 a 1 y 0"); n != 1 || e != api.OK {
			t.Error(n, e)
		}
	}
	check(t, "Entries", o.Entries(), api.OK, other.Entries())
	for _, line := range []string{"ask 10 10 site a", "ask 10 10 holders a1", "why 10 10 value fee", "refused 10 10", "journal", "undo 10"} {
		if got, want := o.Do(line), other.Do(line); got != want {
			t.Error(line, got, want)
		}
	}
}

// R4 (P1): the same arguments, and the same calls, give the same results.
func TestResultsAreRepeated(t *testing.T) {
	before := everything(arguments())
	for range 30 {
		if got := everything(arguments()); !reflect.DeepEqual(got, before) {
			t.Fatal(got, before)
		}
	}
}

// R5 (P1): nil lists and empty ones are the same.
func TestNoLists(t *testing.T) {
	some := args{q: query(api.AskSite, "a", 5, 5), f: finding("unknown"), name: "main", said: "person same 0 1", ask: "ask 0 0 site a", why: "why 0 0 site a", journey: "journal", e: story()[0], text: "x"}
	empty := some
	empty.b = api.Base{Yard: api.Yard{Sites: []api.Site{}, Rests: []api.Rest{}}, Laws: []api.Law{}}
	empty.l, empty.other, empty.f.Keys = []api.Entry{}, []api.Entry{}, []api.Key{}
	entered := []api.Entry{entry("main", 1, 0, 0, "person same 0 1"), entry("main", 2, 0, 0, "withdraw main 1"), entry("main", 3, 0, 0, "person same 0 1")}
	journal := journalOf("main 1 0 0 person same 0 1", "main 2 0 0 withdraw main 1", "main 3 0 0 person same 0 1")
	for _, x := range []args{some, empty} {
		got := everything(x)
		want := []any{
			api.OK, api.OK, api.OK, office.FormatEntry(x.e), api.Entry{}, api.ErrSyntax, []api.Entry{}, api.OK, []api.Key{}, api.OK, []api.Entry{}, api.OK, api.Known{}, []api.Refusal{}, api.OK,
			"unknown", api.OK, "unknown", []api.Key{}, api.OK, api.OK, "", api.OK, "", api.OK, "", api.OK, "", api.OK, []api.Entry{}, 0,
			true, api.OK, api.OK, 1, api.OK, 1, api.OK, 3, api.OK, api.OK, entered, entered, "unknown", "nothing", strconv.Itoa(len(journal)), "3", "0",
		}
		if len(got) != len(want) {
			t.Fatal(len(got), len(want))
		}
		for i := range want {
			if !equal(got[i], want[i]) {
				t.Error(i, got[i], want[i])
			}
		}
	}
}

// errorOf is the error of what a function returned.
func errorOf(l ...any) api.Errno { return l[len(l)-1].(api.Errno) }

// R2 (P1): large arguments end soon, and nothing panics.
func TestLargeArguments(t *testing.T) {
	const large = 1 << 20
	long := strings.Repeat("a", large)
	x := args{
		b: api.Base{Yard: api.Yard{Sites: make([]api.Site, large)}, Laws: make([]api.Law, large)}, l: make([]api.Entry, large), other: make([]api.Entry, large), e: entry(long, 1, 1, 1, long),
		q: query(0, long, 1, 1), f: finding(long, make([]api.Key, large)...), text: "a 1 1 1 " + long, journal: strings.Repeat("\n", large),
	}
	for i, e := range []api.Errno{
		office.CheckBase(x.b), office.CheckEntries(x.l), errorOf(office.Merge(x.l, nil)), errorOf(office.Merge(nil, x.l)), errorOf(office.Withdrawn(x.l, 1)), errorOf(office.Facts(x.l, 1)),
		errorOf(office.State(x.b, nil, x.at)), errorOf(office.State(base(), x.l, x.at)), errorOf(office.Answer(base(), x.l, x.q)), errorOf(office.Search(base(), x.l, x.q)), office.CheckSearch(base(), x.l, x.q, x.f),
		errorOf(office.Register(base(), x.l, x.at)), errorOf(office.Map(base(), x.l, x.at)), errorOf(office.Ledger(base(), x.l, x.at)), errorOf(office.Journal(x.l)), errorOf(office.ParseEntry(x.text)),
		open(t, "main").Take(x.l), errorOf(open(t, "main").Enter(1, 1, long)), office.CheckEntry(entry("a", 1, 1, 1, long)), errorOf(office.New(long, x.b)),
	} {
		if e != api.ErrLarge {
			t.Error(i, e)
		}
	}
	for i, e := range []api.Errno{
		office.CheckEntry(x.e), errorOf(office.Answer(base(), nil, x.q)), errorOf(office.Search(base(), nil, x.q)), office.CheckSearch(base(), nil, x.q, x.f), errorOf(office.New(long, base())),
		errorOf(office.ParseEntry(long + " 1 1 1 x")),
	} {
		if e != api.ErrName {
			t.Error(i, e)
		}
	}
	if e := office.CheckSearch(base(), nil, query(0, "a", 1, 1), x.f); e != api.ErrMissing {
		t.Error(e)
	}
	if e := office.CheckSearch(base(), story(), query(0, "a", 300, 300), finding("unknown", slices.Repeat([]api.Key{key("main", 1)}, large)...)); e != api.ErrOrder {
		t.Error(e)
	}
	for _, text := range []string{x.journal, long, strings.Repeat(" #", large), strings.Repeat("a 1 1 1 "+long[:300]+" #1\n", 3000), strings.Repeat(journalOf("a 1 5 5 person same 0 1"), 30000)[7:]} {
		if l, n := office.Recover(text); len(l) != 0 || n != 0 {
			t.Error(len(text), len(l), n)
		}
	}
	for _, line := range []string{long, strings.Repeat(" ", large), "ask 1 1 site" + strings.Repeat(" a", large), "undo " + strings.Repeat("1", large), "why 1 1 class " + long} {
		if s := open(t, "main").Do(line); s != "?" {
			t.Error(s)
		}
	}
	checkLines(t, open(t, "main"), do{"enter 1 1 " + long, "error 8"}, do{"ask 1 1 site " + long, "error 4"})
}

// R2 (P1): whatever the arguments are, all functions end and do not panic.
func TestAnyArguments(t *testing.T) {
	r := rand.New(rand.NewSource(122))
	number := func() int {
		if r.Intn(40) == 0 {
			return pickOne(r, with(extremes, 200000, 200001, 300, 301))
		}
		return r.Intn(9)
	}
	name := func() string {
		if r.Intn(30) == 0 {
			return pickOne(r, wrongNames)
		}
		return pickOne(r, []string{"a", "b", "x"})
	}
	anyEntries := func() []api.Entry {
		return repeat(r.Intn(5), func(i int) api.Entry {
			e := randomEntry(r, anyFact, pickOne(r, []string{"a", "b"}), 1+i/2, i/2+r.Intn(2))
			if r.Intn(30) == 0 {
				e = entry(name(), number(), number(), number(), pickOne(r, with(wrongNames, "rule fee 1 5 5", "withdraw a 1")))
			}
			return e
		})
	}
	errors := map[api.Errno]int{}
	for range 10000 {
		b := shortRests()
		if r.Intn(10) == 0 {
			b.Notes, b.Yard.Sites[r.Intn(4)].Room, b.Laws[1].From = number(), number(), number()
		}
		x := args{
			b: b, l: anyEntries(), other: anyEntries(), e: entry(name(), number(), number(), 5, "rule fee 1 5 5"), day: number(), at: [2]int{number(), number()},
			q: api.Query{Kind: number(), Name: name(), Number: number() / 7, At: [2]int{number(), number()}}, f: finding("unknown", repeat(r.Intn(3), func(int) api.Key { return key(name(), number()) })...),
			text: "a 1 5 5 " + name(), journal: journalOf(repeat(r.Intn(3), func(int) string { return name() + " 1 5 5 person same 0 1" })...), name: name(), entered: number(),
			said: pickOne(r, []string{"person same 0 1", "withdraw a 1", "frob", ""}), ask: "ask 5 5 site " + name(), why: "why 5 5 " + name() + " a", journey: name(),
		}
		if r.Intn(2) == 0 {
			x.q = randomQuery(r)
		}
		for _, result := range everything(x) {
			if e, is := result.(api.Errno); is {
				errors[e]++
			}
		}
	}
	for _, e := range []api.Errno{
		api.OK, api.ErrNil, api.ErrRange, api.ErrForm, api.ErrName, api.ErrExists, api.ErrMissing, api.ErrSyntax, api.ErrOrder, api.ErrNone, api.ErrClash, api.ErrGap, api.ErrKind, api.ErrDate, api.ErrProof, api.ErrState,
	} {
		if errors[e] < 10 {
			t.Error(e, errors)
		}
	}
}
