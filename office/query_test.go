package office_test

import (
	"testing"

	"mortsafe/api"
	"mortsafe/office"
)

// answers are queries and their answers out of entries.
type answers map[api.Query]string

// check compares the answers of Answer and of Search.
func (a answers) check(t *testing.T, b api.Base, l []api.Entry) {
	t.Helper()
	for q, want := range a {
		s, e := office.Answer(b, l, q)
		check(t, "Answer", s, e, want)
		s, _, e = office.Search(b, l, q)
		check(t, "Search: the answer", s, e, want)
	}
}

// graves are events of all kinds, known on their days.
func graves() []api.Entry {
	texts := []string{
		"grave bury 10 a 0 x 0", "grave bury 20 a 1 y 1", "grave bury 20 s 0 t 2", "grave bury 25 v 1 w 0", "grave bury 25 v 0 u 1", "grave exhume 30 y order", "grave bury 30 s 0 p 2",
		"grave gather 40 w", "grave rebury 50 n 1 y 1", "grave bury 60 a 1 z 0", "grave bury 60 a 2 q 1",
	}
	days := []int{10, 20, 20, 25, 25, 30, 30, 40, 50, 60, 60}
	return repeat(len(texts), func(i int) api.Entry { return entry("main", i+1, days[i], days[i], texts[i]) })
}

// P10.5: where a remain is, since when.
func TestRemains(t *testing.T) {
	const late = 200000
	answers{
		query(api.AskRemain, "x", late, 9): "unknown", query(api.AskRemain, "x", late, 10): "at a 0 since 10", query(api.AskRemain, "x", 9, late): "unknown", query(api.AskRemain, "x", 10, late): "at a 0 since 10",
		query(api.AskRemain, "y", late, 29): "at a 1 since 20", query(api.AskRemain, "y", late, 30): "in keeping since 30", query(api.AskRemain, "y", late, 49): "in keeping since 30",
		query(api.AskRemain, "y", late, 50): "at n 1 since 50", query(api.AskRemain, "y", 49, late): "in keeping since 30", query(api.AskRemain, "t", late, late): "scattered at s since 20",
		query(api.AskRemain, "w", late, late): "gathered since 40", query(api.AskRemain, "w", 39, late): "at v 1 since 25", query(api.AskRemain, "a", late, late): "unknown",
		query(api.AskRemain, "q", late, late): "at a 2 since 60", query(api.AskRemain, "X", late, late): "unknown",
	}.check(t, base(), graves())
}

// P10.5: what is at a site, by levels, and by remains at a scattering ground.
func TestSites(t *testing.T) {
	const late = 200000
	answers{
		query(api.AskSite, "a", late, 9): "nothing", query(api.AskSite, "a", late, 10): "0 x", query(api.AskSite, "a", late, 20): "0 x, 1 y", query(api.AskSite, "a", late, 30): "0 x",
		query(api.AskSite, "a", late, 60): "0 x, 1 z, 2 q", query(api.AskSite, "v", late, 30): "0 u, 1 w", query(api.AskSite, "v", late, 40): "0 u", query(api.AskSite, "s", late, 20): "0 t",
		query(api.AskSite, "s", late, late): "0 p, 0 t", query(api.AskSite, "n", late, 49): "nothing", query(api.AskSite, "n", late, 50): "1 y", query(api.AskSite, "b", late, late): "unknown",
		query(api.AskSite, "x", late, late): "unknown", query(api.AskSite, "a", 29, 60): "0 x, 1 y", query(api.AskSite, "A", 60, 60): "unknown",
	}.check(t, base(), graves())
}

// P10.5: who holds a place; unknown heirs are "?", and a place without a right in force has none.
func TestHolders(t *testing.T) {
	l := with(numberedFrom("a", 5, "right child 5 - ann 0 0 bob 0 0", "right child 5 - ann 0 0 cat 0 0", "right marriage 5 - ann 0 0 dan 0 0"),
		entry("b", 1, 10, 10, "right grant 10 a1 - 1 0 ann 1 1"), entry("b", 2, 10, 10, "right grant 10 b1 - 1 1 eve 1 3 dan 2 3"), entry("b", 3, 20, 20, "right death 20 - ann 0 0"),
		entry("b", 4, 30, 30, "right death 30 - eve 0 0"))
	const late = 200000
	answers{
		query(api.AskHolders, "a1", late, 9): "none", query(api.AskHolders, "a1", 9, late): "none", query(api.AskHolders, "a1", late, 10): "ann 1/1", query(api.AskHolders, "a1", 19, late): "ann 1/1",
		query(api.AskHolders, "a1", late, 20): "bob 3/8, cat 3/8, dan 1/4", query(api.AskHolders, "b1", late, 10): "dan 2/3, eve 1/3", query(api.AskHolders, "b1", late, 30): "? 1/3, dan 2/3",
		query(api.AskHolders, "b1", late, 374): "? 1/3, dan 2/3", query(api.AskHolders, "b1", late, 375): "none", query(api.AskHolders, "c1", late, late): "none", query(api.AskHolders, "ann", late, late): "none",
	}.check(t, quarters(), l)
}

// P10.5: the value of a provision on a day, as it was known on another one: the seventh example of
// chapter 2.
func TestValues(t *testing.T) {
	l := []api.Entry{
		entry("b", 1, 5, 10, "rule fee 100 10 5"), entry("a", 1, 15, 20, "rule fee 120 20 15"), entry("b", 2, 25, 20, "rule fee 110 20 25"), entry("b", 3, 28, 30, "rule fee repeal 30 28"),
		entry("b", 4, 40, 35, "rule tax -7 35 40"),
	}
	const late = 200000
	answers{
		query(api.AskValue, "fee", 20, 25): "120", query(api.AskValue, "fee", 26, 25): "110", query(api.AskValue, "fee", 28, 31): "none", query(api.AskValue, "fee", 27, 31): "110",
		query(api.AskValue, "fee", 4, late): "none", query(api.AskValue, "fee", late, 9): "none", query(api.AskValue, "fee", late, 10): "100", query(api.AskValue, "fee", late, 19): "100",
		query(api.AskValue, "fee", late, 29): "110", query(api.AskValue, "fee", late, 30): "none", query(api.AskValue, "tax", 39, late): "none", query(api.AskValue, "tax", 40, 35): "-7",
		query(api.AskValue, "tax", 40, 34): "none", query(api.AskValue, "cash", late, late): "none",
	}.check(t, base(), l)
}

// P10.5: balances on a day.
func TestBalances(t *testing.T) {
	l := []api.Entry{entry("b", 1, 9, 3, "money 3 500 fees bank"), entry("a", 1, 9, 5, "money 5 200 bank cash"), entry("a", 2, 10, 4, "money 4 1 bank fees")}
	const late = 200000
	answers{
		query(api.AskBalance, "fees", 8, late): "0", query(api.AskBalance, "fees", 9, 2): "0", query(api.AskBalance, "fees", 9, 3): "500", query(api.AskBalance, "fees", late, late): "499",
		query(api.AskBalance, "bank", 9, 4): "-500", query(api.AskBalance, "bank", 10, 4): "-499", query(api.AskBalance, "bank", 9, 5): "-300", query(api.AskBalance, "bank", 10, 5): "-299",
		query(api.AskBalance, "cash", late, late): "-200", query(api.AskBalance, "gold", late, late): "0",
	}.check(t, base(), l)
}

// P10.5: the class of a register entry.
func TestClasses(t *testing.T) {
	b := base()
	b.Notes = 12
	l := []api.Entry{
		entry("a", 1, 5, 7, "person same 11 2"), entry("a", 2, 6, 6, "person same 2 0"), entry("a", 3, 7, 7, "person different 1 2"), entry("b", 1, 8, 0, "person same 1 3"), entry("b", 2, 9, 9, "person same 3 0"),
		entry("b", 3, 10, 10, "withdraw a 3"),
	}
	const late = 200000
	answers{
		classOf(0, 4, late): "0", classOf(0, 5, late): "0", classOf(2, 5, late): "2, 11", classOf(2, 5, 6): "2", classOf(2, 6, 6): "0, 2", classOf(11, 6, 7): "0, 2, 11", classOf(11, late, 6): "11",
		classOf(3, 9, late): "1, 3", classOf(0, 9, late): "0, 2, 11", classOf(0, 10, late): "0, 1, 2, 3, 11", classOf(0, 10, 8): "0, 2, 11", classOf(10, late, late): "10",
	}.check(t, b, l)
}

// P10.5: without entries there are answers, too.
func TestAnswersOfNothing(t *testing.T) {
	answers{
		query(api.AskRemain, "x", 0, 0): "unknown", query(api.AskSite, "a", 200000, 0): "nothing", query(api.AskSite, "b", 0, 200000): "unknown", query(api.AskHolders, "a", 0, 0): "none",
		query(api.AskValue, "a", 0, 0): "none", query(api.AskBalance, "a", 0, 0): "0", classOf(0, 0, 0): "0", classOf(2, 200000, 200000): "2",
	}.check(t, base(), nil)
	answers{query(api.AskSite, "a", 5, 5): "unknown", query(api.AskBalance, "a", 5, 5): "0"}.check(t, api.Base{}, nil)
}

// P10.5: the errors of queries, in their order, before those of findings and of too many facts.
func TestWrongQueries(t *testing.T) {
	all := allOfQueries()
	for _, kind := range with(extremes, 6, 7) {
		for _, q := range []api.Query{{Kind: kind, Name: "a"}, {Kind: kind, Number: 1}, {Kind: kind, Name: "", Number: -1, At: wrongDays()}} {
			checkAll(t, "a query of no kind", all, q, api.ErrKind)
		}
	}
	for kind := range api.AskClass {
		for _, day := range noDays {
			for _, at := range [][2]int{{day, 5}, {5, day}} {
				for _, q := range []api.Query{{Kind: kind, Name: "a", At: at}, {Kind: kind, At: at, Number: 1}, {Kind: kind, Name: "1", At: at}} {
					checkAll(t, "a query of no day", all, q, api.ErrRange)
				}
			}
		}
		for _, n := range with(extremes, 1, 2) {
			for _, name := range []string{"a", "", "1"} {
				checkAll(t, "a query of a name and a number", all, api.Query{Kind: kind, Name: name, Number: n}, api.ErrForm)
			}
		}
		for _, name := range wrongNames {
			checkAll(t, "a query of no name", all, api.Query{Kind: kind, Name: name}, api.ErrName)
		}
	}
	for _, day := range noDays {
		for _, at := range [][2]int{{day, 5}, {5, day}} {
			checkAll(t, "a query of a class on no day", all, api.Query{Kind: api.AskClass, Name: "a", Number: 3, At: at}, api.ErrRange)
		}
	}
	for _, name := range []string{"a", "1", " "} {
		for _, n := range []int{0, 2, 3, -1} {
			checkAll(t, "a query of a class by name", all, api.Query{Kind: api.AskClass, Name: name, Number: n}, api.ErrForm)
		}
	}
	for _, n := range with(extremes, 3, 4) {
		checkAll(t, "a query of a class of none", all, api.Query{Kind: api.AskClass, Number: n}, api.ErrRange)
	}
	s, e := office.Answer(api.Base{}, nil, classOf(0, 0, 0))
	checkError(t, "a class without entries of registers", []any{s}, e, api.ErrRange)
}
