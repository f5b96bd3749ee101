package office_test

import (
	"math/rand"
	"slices"
	"strings"
	"testing"

	"mortsafe/allot"
	"mortsafe/api"
	"mortsafe/consent"
	"mortsafe/grave"
	"mortsafe/office"
	"mortsafe/right"
	"mortsafe/rule"
)

// This file tests the whole: what several packages promise together, and the examples of DOC.md.

// eventsOf returns the events with some texts.
func eventsOf(t *testing.T, texts ...string) []api.Event {
	t.Helper()
	return repeat(len(texts), func(i int) api.Event {
		e, wrong := grave.ParseEvent(texts[i])
		if wrong != api.OK {
			t.Fatal(texts[i], wrong)
		}
		return e
	})
}

// deedsOf returns the deeds with some texts.
func deedsOf(t *testing.T, texts ...string) []api.Deed {
	t.Helper()
	return repeat(len(texts), func(i int) api.Deed {
		d, wrong := right.ParseDeed(texts[i])
		if wrong != api.OK {
			t.Fatal(texts[i], wrong)
		}
		return d
	})
}

// The examples 1 to 6 of DOC.md, one of each package that it names.
func TestExamplesOfPackages(t *testing.T) {
	for level, depth := range []int{240, 160, 80} {
		n, e := grave.DepthOf(yard(), "a", level)
		check(t, "example 1: the depth", n, e, depth)
		for container, want := range []bool{depth >= 150, true} {
			takes, e := grave.Takes(yard(), "a", level, container)
			check(t, "example 1", takes, e, want)
		}
	}
	l := eventsOf(t, "bury 100 a 0 x 0", "bury 200 a 1 y 0")
	for text, want := range map[string]api.Errno{
		"exhume 200000 x": api.ErrBusy, "exhume 200000 x order": api.ErrBusy, "exhume 7499 y": api.ErrRest, "exhume 7500 y": api.OK, "exhume 7499 y order": api.OK,
	} {
		if _, e := grave.Add(yard(), l, eventsOf(t, text)[0]); e != want {
			t.Error("example 2", text, e)
		}
	}
	deeds := deedsOf(t, "child 0 - ann 0 0 bob 0 0", "child 0 - ann 0 0 cat 0 0", "marriage 0 - ann 0 0 dan 0 0", "grant 100 a1 - 1 0 ann 1 1", "death 200 - ann 0 0")
	holders, e := right.Holders(api.Rights{Laws: quarters().Laws, Deeds: deeds}, "a1", 200)
	frac := func(num, den int) api.Frac { return api.Frac{Num: num, Den: den} }
	check(t, "example 3", holders, e, []api.Part{{Name: "bob", Share: frac(3, 8)}, {Name: "cat", Share: frac(3, 8)}, {Name: "dan", Share: frac(1, 4)}})
	records := []api.Record{
		{Kind: api.RecordDied, Name: "ann", Day: 5}, {Name: "bob", Day: 9}, {Name: "ann", Day: 7}, {Kind: api.RecordHolds, Name: "ann", Place: "a1", Share: frac(1, 2), Day: 4},
		{Kind: api.RecordHolds, Name: "bob", Place: "a1", Share: frac(2, 3), Day: 4},
	}
	set, e := right.LeastDispute(records)
	check(t, "example 4", set, e, []int{0, 2})
	wishes := []api.Wish{{Name: "a", Section: "p"}, {Name: "b", Section: "q"}, {Name: "c", Section: "q"}}
	vacancies := []api.Vacancy{{Name: "p1", Section: "p", Room: 1}, {Name: "q1", Section: "q", Room: 1}}
	places, cover, e := allot.Allot(wishes, vacancies)
	found, wrong := allot.CheckAllot(wishes, vacancies, places)
	check(t, "example 5", found, firstOf(e, wrong), 2)
	most, e := allot.CheckCover(wishes, vacancies, cover)
	check(t, "example 5: the cover", []int{most, len(cover.Wishes) + len(cover.Vacancies)}, e, []int{2, 2})
	date, e := rule.DateOf(100)
	check(t, "example 6", date, e, api.Date{Year: 1800, Month: 4, Day: 11})
	day, e := rule.AddMonths(100, 12)
	check(t, "example 6: later", day, e, 465)
}

// firstOf returns the first of some errors.
func firstOf(l ...api.Errno) api.Errno {
	for _, e := range l {
		if e != api.OK {
			return e
		}
	}
	return api.OK
}

// The examples 7 to 10 of DOC.md.
func TestExamplesOfOffices(t *testing.T) {
	for known, want := range map[int]string{204: "unknown", 205: "at a 1 since 200"} {
		s, e := office.Answer(base(), []api.Entry{entry("a", 1, 205, 200, "grave bury 200 a 1 y 0")}, query(api.AskRemain, "y", known, 300))
		check(t, "example 7", s, e, want)
	}
	for known, want := range map[int]string{299: "0 x, 1 z", 300: "0 x, 1 y"} {
		s, e := office.Answer(base(), story(), query(api.AskSite, "a", known, 300))
		check(t, "example 8", s, e, want)
	}
	_, refused, e := office.State(base(), story(), [2]int{299, 300})
	check(t, "example 8: the refusal", refused, e, []api.Refusal{{Entry: story()[2], Err: api.ErrFull}})
	_, keys, e := office.Search(base(), story(), query(api.AskRemain, "y", 300, 300))
	check(t, "example 9", keys, e, []api.Key{key("main", 2)})
	l, _ := office.Recover(storyJournal()[:len(storyJournal())-5])
	check(t, "example 10", l, api.OK, story()[:3])
}

// P2: on every day each recorded remain is at one place, no level holds two, and without an order
// nothing is taken from its level before its rest is over.
func TestPlacesOfAll(t *testing.T) {
	r := rand.New(rand.NewSource(130))
	b := shortRests()
	lying, taken := 0, 0
	for range 500 {
		l := randomOf(r, []int{api.AskSite}, 16)
		k, _, _ := office.State(b, l, [2]int{lastModelDay, lastModelDay})
		recorded := map[string]api.Event{}
		over := map[string]int{}
		for _, x := range k.Events {
			if x.Kind == api.Bury || x.Kind == api.Rebury {
				recorded[x.Remain] = x
			} else if !x.Order {
				if taken++; x.Day < over[x.Remain] {
					t.Fatal("taken before the rest is over", l, x)
				}
			}
			over[x.Remain] = x.Day
			if at := recorded[x.Remain]; at.Site == "a" {
				over[x.Remain] += []int{6, 3}[at.Container]
			}
		}
		for day := range lastModelDay + 1 {
			register, _ := office.Register(b, l, [2]int{lastModelDay, day})
			var levels []string
			for _, line := range strings.Split(strings.TrimSuffix(register, "\n"), "\n") {
				if remain, place, _ := strings.Cut(line, ": "); strings.HasPrefix(place, "at ") {
					place, _, _ = strings.Cut(place, " since ")
					levels = append(levels, place)
					if recorded[remain].Remain != remain {
						t.Fatal(l, register)
					}
				}
			}
			lying += len(levels)
			slices.Sort(levels)
			if len(slices.Compact(slices.Clone(levels))) != len(levels) {
				t.Fatal("a level holds two", l, day, register)
			}
		}
	}
	if lying < 1000 || taken < 100 {
		t.Error(lying, taken)
	}
}

// P2: the holders of a right have shares that add up to 1; the fewest of them that have more than
// half are enough by the rule of their shares, and without one of them they are not.
func TestHoldersOfAll(t *testing.T) {
	r := rand.New(rand.NewSource(131))
	b := shortRests()
	half, asked := api.Frac{Num: 1, Den: 2}, 0
	for range 1500 {
		l := randomOf(r, []int{api.AskHolders}, 16)
		k, _, _ := office.State(b, l, [2]int{lastModelDay, lastModelDay})
		rights := api.Rights{Laws: b.Laws, Deeds: k.Deeds}
		for _, place := range []string{"a1", "b1"} {
			holders, e := right.Holders(rights, place, lastModelDay)
			if e != api.OK || len(holders) == 0 {
				continue
			}
			names := repeat(len(holders), func(i int) string { return holders[i].Name })
			shares := repeat(len(holders), func(i int) api.Frac { return holders[i].Share })
			ofShares, e := consent.OfShares(names, shares, half)
			if e == api.ErrName || e == api.ErrRange || e == api.ErrLarge {
				continue // unknown heirs, or shares that are too fine for this rule
			}
			most, wrong := right.Majority(rights, place, lastModelDay)
			enough, failed := consent.Enough(ofShares, most)
			check(t, "the majority is enough", enough, firstOf(e, wrong, failed), true)
			for i := range most {
				enough, e := consent.Enough(ofShares, slices.Delete(slices.Clone(most), i, i+1))
				check(t, "fewer are not enough", enough, e, false)
			}
			asked++
		}
	}
	if asked < 500 {
		t.Error(asked)
	}
}

// P2: a burial gets a place just if there is one in the state, with a proof.
func TestAllottedPlaces(t *testing.T) {
	l := with(graves(), numberedFrom("lodge", 60, "grave bury 60 v 1 k 0")...)
	k, _, _ := office.State(base(), l, [2]int{60, 60})
	berths, e := grave.Free(base().Yard, k.Events, api.Urn, 60)
	check(t, "Free", berths, e, []api.Berth{{Site: "n", Level: 0}})
	vacancies := repeat(len(berths), func(i int) api.Vacancy { return api.Vacancy{Name: berths[i].Site, Section: "p", Room: 1} })
	wishes := []api.Wish{{Name: "j", Day: 60}, {Name: "i", Day: 60}}
	places, cover, e := allot.Allot(wishes, vacancies)
	graves, wrong := allot.CheckCover(wishes, vacancies, cover)
	check(t, "Allot", graves, firstOf(e, wrong), 1)
	for i, place := range places {
		if place < 0 {
			continue
		}
		more := with(l, entry("zoo", 1, 61, 61, "grave bury 61 n 0 "+wishes[i].Name+" 1"))
		s, e := office.Answer(base(), more, query(api.AskRemain, wishes[i].Name, 61, 61))
		check(t, "the burial", s, e, "at n 0 since 61")
	}
}

// P2: offices that were apart tell the same behind the exchange of their entries, in whatever order
// they are merged, and behind a crash at any byte.
func TestOfficesAgree(t *testing.T) {
	r := rand.New(rand.NewSource(132))
	for range 60 {
		all := repeat(3, func(i int) pair { return newPair(t, someOffices[i]) })
		for i := range 30 {
			pickOne(r, all).act(r, all, i/2)
		}
		var l []api.Entry
		for _, p := range shuffled(r, all) {
			merged, e := office.Merge(p.Entries(), l)
			if e == api.ErrClash || e == api.ErrOrder {
				break // strangers came in under the names of the offices
			}
			check(t, "Merge", len(merged) >= len(l), e, true)
			l = merged
		}
		text, _ := office.Journal(l)
		for range 10 {
			rest, read := office.Recover(text[:r.Intn(len(text)+1)])
			check(t, "Recover", rest, api.OK, l[:len(rest)])
			again, e := office.Merge(rest, shuffled(r, l))
			check(t, "what others still have", again, e, l)
			if other, _ := office.Recover(text[:read]); !equal(other, rest) {
				t.Fatal(text, read)
			}
		}
		q := randomQuery(r)
		checkSame(t, "the same for all", l, shuffled(r, l), q)
	}
}

// P2: three offices enter facts without knowing of each other, and then take what the others have;
// all of them give the same answers, and have the same entries on which these depend.
func TestOfficesExchange(t *testing.T) {
	r := rand.New(rand.NewSource(133))
	for range 100 {
		all := repeat(3, func(i int) pair { return newPair(t, someOffices[i]) })
		for i := range 30 {
			e := randomEntry(r, anyFact, "main", 1, i/2)
			pickOne(r, all).Enter(e.Entered, e.Day, e.Text)
		}
		for _, p := range shuffled(r, all) {
			for _, from := range shuffled(r, all) {
				if e := p.Take(from.Entries()); e != api.OK {
					t.Fatal(e)
				}
			}
		}
		for _, p := range all {
			for _, from := range shuffled(r, all) {
				if e := p.Take(from.Entries()); e != api.OK {
					t.Fatal(e)
				}
			}
		}
		for range 5 {
			all[0].model.l = all[0].Entries()
			for i, x := range all[0].questions(r) {
				for _, p := range all {
					if s := p.Do(x.line); s != x.want {
						t.Fatal(i, x, s, p.Entries())
					}
				}
			}
		}
	}
}
