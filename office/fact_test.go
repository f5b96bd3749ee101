package office_test

import (
	"strings"
	"testing"

	"mortsafe/api"
	"mortsafe/office"
)

// withdrawals are facts and withdrawals of two offices: of facts that were entered earlier, on the
// same day and later, of withdrawals, and of what is not there.
func withdrawals() []api.Entry {
	same := "person same 0 1"
	return []api.Entry{
		entry("a", 1, 5, 50, same), entry("a", 2, 10, 10, "withdraw b 2"), entry("a", 3, 10, 0, "rule fee 1 0 10"), entry("a", 4, 12, 12, "withdraw a 3"), entry("a", 5, 12, 12, "withdraw b 4"),
		entry("b", 1, 7, 7, "withdraw a 1"), entry("b", 2, 20, 3, same), entry("b", 3, 30, 30, "withdraw a 2"), entry("b", 4, 30, 3, same), entry("b", 5, 30, 30, "withdraw b 6"),
		entry("b", 6, 31, 31, same), entry("b", 7, 32, 32, "withdraw a 9"), entry("b", 8, 32, 32, "withdraw nobody 1"), entry("b", 9, 33, 33, "withdraw a 1"),
	}
}

// P10.4: facts are withdrawn from the day on which a withdrawal is known, also those that were
// entered later, or are withdrawn again. A withdrawal of a withdrawal does nothing.
func TestWithdrawn(t *testing.T) {
	a1, a3, b2, b4, b6 := key("a", 1), key("a", 3), key("b", 2), key("b", 4), key("b", 6)
	for day, want := range map[int][]api.Key{
		0: nil, 6: nil, 7: {a1}, 9: {a1}, 10: {a1, b2}, 11: {a1, b2}, 12: {a1, a3, b2, b4}, 29: {a1, a3, b2, b4}, 30: {a1, a3, b2, b4, b6}, 33: {a1, a3, b2, b4, b6}, 200000: {a1, a3, b2, b4, b6},
	} {
		l, e := office.Withdrawn(withdrawals(), day)
		check(t, "Withdrawn", l, e, want)
	}
	for day, want := range map[int][]api.Key{299: nil, 300: {key("lodge", 1)}} {
		l, e := office.Withdrawn(story(), day)
		check(t, "Withdrawn", l, e, want)
	}
}

// P10.4: facts are known from the day on which they were entered until they are withdrawn, and
// withdrawals are none. (Later facts are known, too, although they do not hold yet.)
func TestKnownFacts(t *testing.T) {
	l := withdrawals()
	for day, want := range map[int][]api.Entry{4: nil, 5: {l[0]}, 6: {l[0]}, 7: nil, 9: nil, 10: {l[2]}, 11: {l[2]}, 12: nil, 29: nil, 30: nil, 200000: nil} {
		got, e := office.Facts(l, day)
		check(t, "Facts", got, e, want)
	}
	for day, want := range map[int][]api.Entry{
		99: nil, 100: {story()[1]}, 150: {story()[1], story()[0]}, 204: {story()[1], story()[0]}, 205: {story()[1], story()[0], story()[2]},
		299: {story()[1], story()[0], story()[2]}, 300: {story()[1], story()[2]}, 200000: {story()[1], story()[2]},
	} {
		got, e := office.Facts(story(), day)
		check(t, "Facts", got, e, want)
	}
}

// P10.4: facts are ordered by Day, Entered, office and number, those of rule behind all others by
// Entered, office and number.
func TestOrderOfFacts(t *testing.T) {
	same := "person same 0 1"
	want := []api.Entry{
		entry("b", 4, 9, 3, same), entry("b", 1, 5, 4, same), entry("a", 1, 6, 4, same), entry("a", 2, 6, 4, same), entry("b", 2, 6, 4, same), entry("b", 3, 9, 4, "right death 4 - ann 0 0"),
		entry("a", 3, 7, 5, "money 5 1 a b"), entry("a", 4, 9, 200000, "grave exhume 200000 x"),
		entry("c", 1, 8, 200000, "rule z 1 200000 8"), entry("a", 5, 9, 7, "rule z 1 7 9"), entry("a", 6, 9, 0, "rule z 1 0 9"), entry("b", 5, 9, 3, "rule z 1 3 9"), entry("b", 6, 10, 0, "rule a 1 0 10"),
	}
	l := []api.Entry{want[12], want[6], want[3], want[11], want[7], want[2], want[0], want[8], want[1], want[10], want[4], want[9], want[5]}
	got, e := office.Facts(l, 10)
	check(t, "Facts", got, e, want)
	got, e = office.Facts(l, 9)
	check(t, "Facts", got, e, want[:12])
	got, e = office.Facts(l, 8)
	check(t, "Facts", got, e, []api.Entry{want[1], want[2], want[3], want[4], want[6], want[8]})
}

// P10.4: the errors of days.
func TestWrongDaysOfFacts(t *testing.T) {
	for _, day := range noDays {
		for _, l := range [][]api.Entry{nil, story()} {
			keys, e := office.Withdrawn(l, day)
			checkError(t, "Withdrawn", []any{keys}, e, api.ErrRange)
			facts, e := office.Facts(l, day)
			checkError(t, "Facts", []any{facts}, e, api.ErrRange)
		}
		for _, at := range [][2]int{{day, 5}, {5, day}, {day, day}} {
			checkAll(t, "a wrong day", allOfDays(), at, api.ErrRange)
		}
	}
}

// P10.4: facts of all kinds are taken, each behind those of its kind, if they hold by the day;
// those of rule always.
func TestState(t *testing.T) {
	quarter := api.Frac{Num: 1, Den: 4}
	l := numberedFrom("a", 10, "grave bury 10 a 0 x 0", "person same 0 1", "right grant 10 a1 - 1 0 ann 1 1", "money 10 5 a b", "rule fee 1 10 10")
	l = with(l, numberedFrom("b", 20, "grave bury 20 a 1 y 0", "person different 0 2", "right transfer 20 a1 ann 0 0 bob 1 4", "money 20 6 b a", "rule fee repeal 20 20")...)
	events := []api.Event{{Day: 10, Site: "a", Remain: "x"}, {Day: 20, Site: "a", Level: 1, Remain: "y"}}
	decisions := []api.Decision{{A: 0, B: 1}, {Kind: api.DecideDifferent, A: 0, B: 2}}
	deeds := []api.Deed{
		{Day: 10, Place: "a1", To: []api.Part{{Name: "ann", Share: api.Frac{Num: 1, Den: 1}}}, Class: 1},
		{Kind: api.DeedTransfer, Day: 20, Place: "a1", From: "ann", To: []api.Part{{Name: "bob", Share: quarter}}},
	}
	postings := []api.Posting{{Day: 10, Cents: 5, Debit: "a", Credit: "b"}, {Day: 20, Cents: 6, Debit: "b", Credit: "a"}}
	provisions := []api.Provision{{Name: "fee", Value: 1, From: 10, Entered: 10}, {Name: "fee", From: 20, Entered: 20, Repeal: true}}
	first := api.Known{Events: events[:1], Decisions: decisions[:1], Deeds: deeds[:1], Postings: postings[:1]}
	both := api.Known{Events: events, Decisions: decisions, Deeds: deeds, Postings: postings, Provisions: provisions}
	rules := func(k api.Known, l []api.Provision) api.Known {
		k.Provisions = l
		return k
	}
	for at, want := range map[[2]int]api.Known{
		{9, 200000}: {}, {200000, 9}: {Provisions: provisions}, {10, 9}: {Provisions: provisions[:1]}, {10, 10}: rules(first, provisions[:1]), {19, 200000}: rules(first, provisions[:1]),
		{20, 19}: rules(first, provisions), {20, 20}: both, {200000, 200000}: both,
	} {
		k, refused, e := office.State(base(), l, at)
		check(t, "State", k, e, want)
		if len(refused) > 0 {
			t.Error(at, refused)
		}
	}
}

// refusedFacts are facts that are refused on day 10 about day 10 by the base.
func refusedFacts() []wrong[string] {
	return []wrong[string]{
		{"grave bury 9 b 0 x 0", api.ErrMissing}, {"grave bury 9 a 3 x 0", api.ErrRange}, {"grave bury 9 a 2 x 0", api.ErrKind}, {"grave exhume 9 x", api.ErrMissing},
		{"person same 0 3", api.ErrMissing}, {"person same 1 1", api.ErrForm}, {"person different -1 0", api.ErrMissing},
		{"right transfer 9 a1 ann 0 0 bob 1 2", api.ErrMissing}, {"right surrender 9 a1 ann 0 0", api.ErrMissing}, {"right renewal 9 a1 - 0 5", api.ErrMissing},
		{"money 9 0 a b", api.ErrRange}, {"money 9 5 a a", api.ErrForm}, {"money 9 5 a ", api.ErrName}, {"money 9 1000000000001 a b", api.ErrRange},
		{"rule fee repeal 9 10", api.ErrMissing},
	}
}

// P10.4: facts are refused with the errors of their chapters, and left out; the others are taken.
func TestRefusedFacts(t *testing.T) {
	for _, c := range refusedFacts() {
		day := 9
		if strings.HasPrefix(c.x, "person") {
			day = 10
		}
		e := entry("b", 1, 10, day, c.x)
		l := []api.Entry{e, entry("a", 1, 10, 0, "money 0 5 a b"), entry("c", 1, 10, 10, "money 10 6 a b")}
		k, refused, wrong := office.State(base(), l, [2]int{10, 10})
		check(t, "State: taken", k, wrong, api.Known{Postings: []api.Posting{{Cents: 5, Debit: "a", Credit: "b"}, {Day: 10, Cents: 6, Debit: "a", Credit: "b"}}})
		check(t, "State: refused", refused, wrong, []api.Refusal{{Entry: e, Err: c.want}})
	}
}

// P10.4: refusals are in the order of the facts, whatever their kinds are; what was refused counts
// for nothing.
func TestOrderOfRefusals(t *testing.T) {
	l := []api.Entry{
		entry("a", 1, 5, 0, "rule fee repeal 0 5"), entry("a", 2, 5, 9, "grave bury 9 a 0 x 0"), entry("a", 3, 6, 7, "person same 0 0"), entry("a", 4, 6, 8, "grave bury 8 a 0 y 0"),
		entry("b", 1, 5, 7, "money 7 0 a b"), entry("b", 2, 6, 10, "grave bury 10 a 1 x 0"), entry("b", 3, 6, 10, "grave gather 10 x"), entry("b", 4, 6, 8, "right death 8 - ann 0 0"),
		entry("b", 5, 7, 9, "right marriage 9 - ann 0 0 bob 0 0"), entry("b", 6, 7, 10, "right marriage 10 - cat 0 0 bob 0 0"),
	}
	want := []api.Refusal{
		{Entry: l[4], Err: api.ErrRange}, {Entry: l[2], Err: api.ErrForm}, {Entry: l[1], Err: api.ErrFull}, {Entry: l[8], Err: api.ErrState}, {Entry: l[6], Err: api.ErrRest}, {Entry: l[0], Err: api.ErrMissing},
	}
	k, refused, e := office.State(base(), l, [2]int{10, 10})
	check(t, "State: refused", refused, e, want)
	if len(k.Events) != 2 || len(k.Deeds) != 2 || len(k.Decisions)+len(k.Postings)+len(k.Provisions) != 0 {
		t.Error(k)
	}
}

// P10.4: the base counts: how many register entries there are, and which law holds.
func TestStateOfBases(t *testing.T) {
	l := numberedFrom("a", 5, "person same 3 4", "person same 0 1", "grave bury 5 n 0 x 1")
	for notes, want := range map[int]int{0: 0, 1: 0, 2: 1, 4: 1, 5: 2, 60: 2} {
		b := base()
		b.Notes = notes
		k, refused, e := office.State(b, l, [2]int{5, 5})
		if len(k.Decisions) != want || len(k.Events) != 1 || len(refused) != 2-want || e != api.OK {
			t.Error(notes, k, refused, e)
		}
	}
	deeds := numberedFrom("a", 5, "right child 5 - ann 0 0 bob 0 0", "right marriage 5 - ann 0 0 dan 0 0", "right grant 5 a1 - 0 0 ann 1 1", "right death 5 - ann 0 0")
	for i, want := range []string{"bob 1/1", "bob 3/4, dan 1/4"} {
		s, e := office.Answer([]api.Base{base(), quarters()}[i], deeds, query(api.AskHolders, "a1", 5, 5))
		check(t, "Answer", s, e, want)
	}
}

// P10.4: facts of the limits of their chapters are refused behind them.
func TestManyFacts(t *testing.T) {
	for text, c := range map[string]wrong[int]{
		"person different 0 1": {120, api.ErrLarge}, "money 5 1 a b": {200, api.ErrLarge}, "rule fee 1 5 5": {200, api.ErrLarge}, "right marriage 5 - a 0 0 b 0 0": {1, api.ErrClash},
		"right will 5 - a 0 0 b 1 2": {60, api.ErrLarge},
	} {
		l := numberedFrom("a", 5, repeat(300, func(int) string { return text })...)
		k, refused, e := office.State(base(), l, [2]int{5, 5})
		if n := len(k.Decisions) + len(k.Postings) + len(k.Provisions) + len(k.Deeds); n != c.x || len(refused) != 300-c.x || e != api.OK {
			t.Error(text, n, len(refused), e)
		}
		for i, r := range refused {
			if r.Entry != l[c.x+i] || r.Err != c.want {
				t.Fatal(text, i, r)
			}
		}
	}
}
