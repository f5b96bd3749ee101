package office_test

import (
	"strconv"
	"testing"

	"mortsafe/api"
	"mortsafe/office"
)

// searches are queries, and what they find.
type searches map[api.Query]api.Finding

// check compares findings, which CheckSearch must accept.
func (s searches) check(t *testing.T, b api.Base, l []api.Entry) {
	t.Helper()
	for q, want := range s {
		answer, keys, e := office.Search(b, l, q)
		check(t, "Search", api.Finding{Answer: answer, Keys: keys}, e, want)
		if e := office.CheckSearch(b, l, q, want); e != api.OK {
			t.Error("CheckSearch", q, want, e)
		}
	}
}

// P10.5: the entries on which an answer depends: those alone without which it is another one.
func TestSearch(t *testing.T) {
	y2, x1, z := key("main", 2), key("main", 1), key("lodge", 1)
	searches{
		query(api.AskRemain, "y", 300, 300): finding("at a 1 since 200", y2), query(api.AskRemain, "y", 299, 300): finding("unknown"), query(api.AskRemain, "z", 299, 150): finding("at a 1 since 150", z),
		query(api.AskRemain, "x", 299, 300): finding("at a 0 since 100", x1), query(api.AskSite, "a", 300, 300): finding("0 x, 1 y", x1, y2), query(api.AskSite, "a", 299, 300): finding("0 x, 1 z", z, x1),
		query(api.AskSite, "a", 299, 149): finding("0 x", x1), query(api.AskSite, "v", 300, 300): finding("nothing"), query(api.AskValue, "a", 300, 300): finding("none"),
	}.check(t, base(), story())
	main := func(n ...int) []api.Key { return repeat(len(n), func(i int) api.Key { return key("main", n[i]) }) }
	searches{
		query(api.AskRemain, "y", 60, 60): finding("at n 1 since 50", main(2, 6, 9)...), query(api.AskRemain, "y", 60, 40): finding("in keeping since 30", main(2, 6)...),
		query(api.AskRemain, "w", 60, 60): finding("gathered since 40", main(4, 8)...), query(api.AskSite, "s", 60, 60): finding("0 p, 0 t", main(3, 7)...),
		query(api.AskSite, "a", 60, 60): finding("0 x, 1 z, 2 q", main(1, 10, 11)...), query(api.AskRemain, "z", 60, 60): finding("at a 1 since 60", main(10)...),
	}.check(t, base(), graves())
}

// P10.5: entries of all kinds on which answers depend, in canonical order.
func TestSearchOfKinds(t *testing.T) {
	l := []api.Entry{
		entry("a", 1, 9, 20, "right death 20 - ann 0 0"), entry("a", 2, 9, 5, "right will 5 - ann 0 0 eve 1 2"), entry("a", 3, 9, 8, "money 8 7 b a"), entry("a", 4, 9, 3, "money 3 5 a b"),
		entry("a", 5, 9, 0, "person same 1 2"), entry("a", 6, 9, 0, "person different 0 1"),
		entry("b", 1, 5, 5, "right child 5 - ann 0 0 bob 0 0"), entry("b", 2, 5, 5, "right marriage 5 - ann 0 0 dan 0 0"), entry("b", 3, 5, 6, "right grant 6 a1 - 0 0 ann 1 1"),
		entry("b", 4, 5, 6, "right grant 6 b1 - 0 0 bob 1 1"), entry("b", 5, 5, 6, "right will 6 - bob 0 0 eve 1 1"), entry("b", 6, 5, 6, "person same 0 2"), entry("b", 7, 6, 3, "money 3 5 c b"),
		entry("b", 8, 6, 3, "rule fee 1 3 6"), entry("b", 9, 6, 5, "rule fee 2 5 6"), entry("b", 10, 6, 3, "rule tax 1 3 6"),
	}
	searches{
		query(api.AskHolders, "a1", 9, 20): finding("bob 3/8, dan 1/8, eve 1/2", key("a", 1), key("a", 2), key("b", 1), key("b", 2), key("b", 3)),
		query(api.AskHolders, "a1", 9, 19): finding("ann 1/1", key("b", 3)), query(api.AskHolders, "b1", 9, 20): finding("bob 1/1", key("b", 4)),
		query(api.AskBalance, "a", 9, 9): finding("-2", key("a", 3), key("a", 4)), query(api.AskBalance, "b", 9, 9): finding("-3", key("a", 3), key("a", 4), key("b", 7)),
		query(api.AskBalance, "b", 9, 7): finding("-10", key("a", 4), key("b", 7)), query(api.AskBalance, "x", 9, 9): finding("0"),
		classOf(0, 9, 9): finding("0"), classOf(2, 9, 9): finding("1, 2", key("a", 5)), classOf(1, 8, 8): finding("1"), classOf(0, 8, 8): finding("0, 2", key("b", 6)),
		query(api.AskValue, "fee", 9, 9): finding("2", key("b", 9)), query(api.AskValue, "fee", 9, 4): finding("1", key("b", 8)), query(api.AskValue, "fee", 5, 9): finding("none"),
	}.check(t, quarters(), l)
}

// P10.5: of facts that are each enough the first ones in the order of facts are told, since the
// last ones are left out before; and a fact that matters only because of another one is left out
// behind it.
func TestRoundsOfSearch(t *testing.T) {
	twice := []api.Entry{entry("a", 1, 9, 5, "rule fee 3 5 9"), entry("b", 1, 8, 5, "rule fee 3 5 8"), entry("a", 2, 9, 10, "grave bury 10 a 0 x 0"), entry("c", 1, 5, 10, "grave bury 10 a 0 x 0")}
	searches{
		query(api.AskValue, "fee", 9, 9): finding("3", key("b", 1)), query(api.AskRemain, "x", 9, 10): finding("at a 0 since 10", key("c", 1)), query(api.AskValue, "fee", 7, 9): finding("none"),
	}.check(t, base(), twice)
	moved := numberedFrom("a", 300, repeat(1, func(int) string { return "person same 0 1" })...)
	moved = with(moved, entry("b", 1, 300, 100, "grave bury 100 a 1 z 0"), entry("b", 2, 300, 150, "grave exhume 150 z order"), entry("b", 3, 300, 200, "grave bury 200 a 1 y 0"))
	searches{
		query(api.AskRemain, "y", 300, 300): finding("at a 1 since 200", key("b", 3)), query(api.AskRemain, "z", 300, 300): finding("in keeping since 150", key("b", 1), key("b", 2)),
	}.check(t, base(), moved)
	repealed := numberedFrom("a", 5, "rule fee 5 5 5", "rule fee repeal 5 5", "rule fee 6 5 5", "rule fee repeal 5 5")
	searches{query(api.AskValue, "fee", 5, 5): finding("none")}.check(t, base(), repealed)
	back := numberedFrom("a", 5, "money 5 3 a b", "money 5 2 c a", "money 5 2 d b", "money 5 1 d a")
	searches{query(api.AskBalance, "a", 5, 5): finding("0", key("a", 1), key("a", 2), key("a", 4)), query(api.AskBalance, "d", 5, 5): finding("3", key("a", 3), key("a", 4))}.check(t, base(), back)
}

// scatterings returns entries that scatter remains.
func scatterings(n int) []api.Entry {
	return numberedFrom("a", 5, repeat(n, func(i int) string { return "grave bury 5 s 0 x" + strconv.Itoa(1000+i) + " 2" })...)
}

// P10.5: searches among at most 60 facts, of whatever kinds; those that are refused count, and
// those that are withdrawn, not known, or do not hold yet do not. Facts of rule always hold.
func TestLargeSearches(t *testing.T) {
	q := query(api.AskSite, "s", 5, 5)
	text := func(s string, n int) []string { return repeat(n, func(int) string { return s }) }
	sixty := scatterings(60)
	answer, keys, e := office.Search(base(), sixty, q)
	all, _ := office.Answer(base(), sixty, q)
	check(t, "Search of 60 facts", finding(answer, keys...), e, finding(all, repeat(60, func(i int) api.Key { return key("a", i+1) })...))
	for _, further := range []string{"grave bury 5 s 0 x 2", "grave bury 5 b 0 x 2", "grave gather 5 x", "person same 0 1", "person same 0 0", "right death 5 - a 0 0", "money 5 0 a b", "rule fee 1 5 5", "rule fee 1 6 5"} {
		day := 5
		if further == "rule fee 1 6 5" {
			day = 6
		}
		answer, keys, e := office.Search(base(), with(sixty, entry("b", 1, 5, day, further)), q)
		checkError(t, "Search with "+further, []any{answer, keys}, e, api.ErrLarge)
	}
	for i, further := range [][]api.Entry{
		{entry("b", 1, 6, 5, "person same 0 1")}, {entry("b", 1, 5, 6, "person same 0 1")}, {entry("b", 1, 6, 6, "rule fee 1 6 6")}, {entry("b", 1, 5, 5, "withdraw a 300")},
		{entry("b", 1, 5, 5, "person same 0 1"), entry("b", 2, 5, 5, "withdraw b 1")}, numberedFrom("b", 6, text("rule fee 1 6 6", 100)...), numberedFrom("b", 5, text("withdraw a 300", 200)...),
	} {
		answer, _, e := office.Search(base(), with(sixty, further...), q)
		check(t, "Search with further entries "+strconv.Itoa(i), answer, e, all)
	}
	answer, keys, e = office.Search(base(), numberedFrom("b", 5, text("rule fee 1 5 5", 61)...), query(api.AskSite, "a", 5, 5))
	checkError(t, "Search in by-laws", []any{answer, keys}, e, api.ErrLarge)
	answer, keys, e = office.Search(base(), numberedFrom("b", 5, text("rule fee 1 5 5", 60)...), query(api.AskValue, "fee", 5, 5))
	check(t, "Search in by-laws", finding(answer, keys...), e, finding("1", key("b", 1)))
}

// P10.5: the errors of findings, in their order.
func TestWrongFindings(t *testing.T) {
	q := query(api.AskSite, "a", 299, 200)
	y2, x1, z := key("main", 2), key("main", 1), key("lodge", 1)
	right := "0 x, 1 z"
	for _, missing := range []api.Key{key("main", 3), key("main", 4), key("main", 0), key("lodge", 2), key("", 0), key("", 1), key("x", 1), key("main", extremes[0]), key("main", extremes[4])} {
		for _, keys := range [][]api.Key{{missing}, {z, x1, missing}, {missing, z, x1}, {x1, z, missing}, {x1, x1, missing}, {missing, missing}, {z, missing, x1}} {
			if e := office.CheckSearch(base(), story(), q, finding(right, keys...)); e != api.ErrMissing {
				t.Error("a key of no fact", keys, e)
			}
		}
	}
	for _, keys := range [][]api.Key{{x1, z}, {z, z}, {z, x1, x1}, {z, z, x1}, {x1, y2, z}, {y2, x1}, {x1, x1}} {
		for _, answer := range []string{right, "", "wrong"} {
			if e := office.CheckSearch(base(), story(), q, finding(answer, keys...)); e != api.ErrOrder {
				t.Error("keys that do not ascend", keys, e)
			}
		}
	}
	for _, f := range []api.Finding{
		finding("", z, x1), finding("0 x,1 z", z, x1), finding("0 x, 1 z ", z, x1), finding("0 x, 1 y", x1, y2), finding("0 x", x1), finding("nothing"), finding("unknown", z, x1),
		finding(right), finding(right, z), finding(right, x1), finding(right, y2), finding(right, x1, y2), finding(right, z, y2), finding(right, z, x1, y2),
	} {
		if e := office.CheckSearch(base(), story(), q, f); e != api.ErrProof {
			t.Error(f, e)
		}
	}
}

// P10.5: keys are those of facts of the state that is asked for.
func TestKeysOfFindings(t *testing.T) {
	y2, x1, z := key("main", 2), key("main", 1), key("lodge", 1)
	for _, c := range []struct {
		known, day int
		k          api.Key
		want       api.Errno
	}{
		{99, 300, x1, api.ErrMissing}, {100, 99, x1, api.ErrMissing}, {100, 100, x1, api.ErrProof}, {300, 300, z, api.ErrMissing}, {299, 300, z, api.ErrProof}, {299, 149, z, api.ErrMissing},
		{204, 300, y2, api.ErrMissing}, {205, 199, y2, api.ErrMissing}, {205, 300, y2, api.ErrProof}, {300, 300, y2, api.ErrProof},
	} {
		if e := office.CheckSearch(base(), story(), query(api.AskSite, "v", c.known, c.day), finding("nothing", c.k)); e != c.want {
			t.Error(c, e)
		}
	}
	l := numberedFrom("a", 5, "rule fee 1 5 5", "person same 0 1")
	for want, f := range map[api.Errno]api.Finding{api.OK: finding("none"), api.ErrProof: finding("none", key("a", 1)), api.ErrMissing: finding("none", key("a", 2))} {
		if e := office.CheckSearch(base(), l, query(api.AskValue, "fee", 5, 4), f); e != want {
			t.Error("keys of facts that do not hold yet", want, e)
		}
	}
}

// P10.5: other findings than that of Search are accepted, too, if none of their facts can be left
// out.
func TestOtherFindings(t *testing.T) {
	l := []api.Entry{entry("a", 1, 9, 5, "rule fee 3 5 9"), entry("b", 1, 8, 5, "rule fee 3 5 8"), entry("c", 1, 8, 4, "rule fee 3 4 8"), entry("d", 1, 8, 6, "rule fee 2 6 8")}
	for _, c := range []wrong[[]api.Key]{
		{[]api.Key{key("a", 1)}, api.OK}, {[]api.Key{key("b", 1)}, api.OK}, {[]api.Key{key("c", 1)}, api.OK}, {[]api.Key{key("d", 1)}, api.ErrProof}, {nil, api.ErrProof},
		{[]api.Key{key("a", 1), key("b", 1)}, api.ErrProof}, {[]api.Key{key("c", 1), key("d", 1)}, api.ErrProof},
	} {
		if e := office.CheckSearch(base(), l, query(api.AskValue, "fee", 9, 5), finding("3", c.x...)); e != c.want {
			t.Error(c, e)
		}
	}
	// Each one of two facts may be needed only because of the other one: then both are too many.
	moved := numberedFrom("b", 300, "person same 0 1")
	moved = with(moved, entry("b", 2, 300, 100, "grave bury 100 a 1 z 0"), entry("b", 3, 300, 150, "grave exhume 150 z order"), entry("b", 4, 300, 200, "grave bury 200 a 1 y 0"))
	for _, c := range []wrong[[]api.Key]{
		{[]api.Key{key("b", 4)}, api.OK}, {[]api.Key{key("b", 2), key("b", 3), key("b", 4)}, api.ErrProof}, {[]api.Key{key("b", 3), key("b", 4)}, api.ErrProof},
		{[]api.Key{key("b", 2), key("b", 4)}, api.ErrProof}, {[]api.Key{key("b", 1), key("b", 4)}, api.ErrProof},
	} {
		if e := office.CheckSearch(base(), moved, query(api.AskRemain, "y", 300, 300), finding("at a 1 since 200", c.x...)); e != c.want {
			t.Error(c, e)
		}
	}
}

// P10.5: CheckSearch has no limit of facts.
func TestLargeFindings(t *testing.T) {
	l := scatterings(90)
	answer, _ := office.Answer(base(), l, query(api.AskSite, "s", 5, 5))
	keys := repeat(90, func(i int) api.Key { return key("a", i+1) })
	for want, f := range map[api.Errno]api.Finding{api.OK: finding(answer, keys...), api.ErrProof: finding(answer, keys[1:]...), api.ErrMissing: finding(answer, with(keys, key("a", 91))...)} {
		if e := office.CheckSearch(base(), l, query(api.AskSite, "s", 5, 5), f); e != want {
			t.Error(want, e)
		}
	}
	if e := office.CheckSearch(base(), many("a", 300), query(api.AskSite, "s", 300, 5), finding("nothing")); e != api.OK {
		t.Error(e)
	}
}
