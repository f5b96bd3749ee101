package office_test

import (
	"fmt"
	"maps"
	"math/big"
	"math/rand"
	"slices"
	"strings"

	"mortsafe/api"
	"mortsafe/grave"
	"mortsafe/money"
	"mortsafe/office"
	"mortsafe/person"
	"mortsafe/right"
	"mortsafe/rule"
)

// This file says again what chapter 10 says, slowly, and tells random stories of offices.

// modelNumber works out the number of a line without going through a modulus.
func modelNumber(text string, line int) int {
	n := big.NewInt(int64(line))
	for i := range len(text) {
		n.Mul(n, big.NewInt(31))
		n.Add(n, big.NewInt(int64(text[i])))
	}
	if len(text) == 0 {
		return line
	}
	return int(n.Mod(n, big.NewInt(10007)).Int64())
}

// modelTogether returns the error of entries that are right by themselves.
func modelTogether(l []api.Entry) api.Errno {
	entered := map[api.Key]int{}
	counts := map[string]int{}
	for _, e := range l {
		entered[key(e.Office, e.Number)] = e.Entered
		counts[e.Office]++
	}
	if len(l) > 300 {
		return api.ErrLarge
	}
	if len(entered) < len(l) {
		return api.ErrExists
	}
	for k := range entered {
		if k.Number > counts[k.Office] {
			return api.ErrGap
		}
	}
	for k, day := range entered {
		if k.Number > 1 && day < entered[key(k.Office, k.Number-1)] {
			return api.ErrOrder
		}
	}
	return api.OK
}

// canonical returns entries in canonical order.
func canonical(l []api.Entry) []api.Entry {
	return sortedBy(l, func(e api.Entry) string { return fmt.Sprintf("%-12s%07d", e.Office, e.Number) })
}

// sortedBy returns elements in the order of texts.
func sortedBy[T any](l []T, text func(T) string) []T {
	l = slices.Clone(l)
	slices.SortStableFunc(l, func(a, b T) int { return strings.Compare(text(a), text(b)) })
	return l
}

// modelMerge merges entries by their keys.
func modelMerge(a, b []api.Entry) ([]api.Entry, api.Errno) {
	all := map[api.Key]api.Entry{}
	for _, e := range slices.Concat(b, a) {
		all[key(e.Office, e.Number)] = e
	}
	for _, e := range b {
		if all[key(e.Office, e.Number)] != e {
			return nil, api.ErrClash
		}
	}
	if len(all) > 300 {
		return nil, api.ErrLarge
	}
	return canonical(slices.Collect(maps.Values(all))), api.OK
}

func isWithdrawal(e api.Entry) bool { return strings.HasPrefix(e.Text, "withdraw ") }

func isProvision(e api.Entry) bool { return strings.HasPrefix(e.Text, "rule ") }

// isWithdrawn looks for a withdrawal of an entry that is known on a day.
func isWithdrawn(l []api.Entry, e api.Entry, day int) bool {
	text := fmt.Sprintf("withdraw %s %d", e.Office, e.Number)
	return slices.ContainsFunc(l, func(w api.Entry) bool { return w.Text == text && w.Entered <= day })
}

func modelWithdrawn(l []api.Entry, day int) []api.Key {
	var keys []api.Key
	for _, e := range canonical(l) {
		if !isWithdrawal(e) && isWithdrawn(l, e, day) {
			keys = append(keys, key(e.Office, e.Number))
		}
	}
	return keys
}

func modelFacts(l []api.Entry, day int) []api.Entry {
	var facts []api.Entry
	for _, e := range l {
		if !isWithdrawal(e) && e.Entered <= day && !isWithdrawn(l, e, day) {
			facts = append(facts, e)
		}
	}
	return sortedBy(facts, func(e api.Entry) string {
		first := fmt.Sprintf("0%07d", e.Day)
		if isProvision(e) {
			first = "1"
		}
		return fmt.Sprintf("%s %07d %-12s%07d", first, e.Entered, e.Office, e.Number)
	})
}

// modelHolding returns the facts of a state.
func modelHolding(l []api.Entry, at [2]int) []api.Entry {
	return slices.DeleteFunc(modelFacts(l, at[0]), func(e api.Entry) bool { return e.Day > at[1] && !isProvision(e) })
}

// modelState takes the facts that the packages of their kinds take.
func modelState(b api.Base, facts []api.Entry) (api.Known, []api.Refusal) {
	var k api.Known
	var refused []api.Refusal
	for _, fact := range facts {
		if e := modelTake(b, &k, fact); e != api.OK {
			refused = append(refused, api.Refusal{Entry: fact, Err: e})
		}
	}
	return k, refused
}

func modelTake(b api.Base, k *api.Known, fact api.Entry) api.Errno {
	e := api.ErrKind
	word, text, _ := strings.Cut(fact.Text, " ")
	switch word {
	case "grave":
		x, _ := grave.ParseEvent(text)
		if _, e = grave.Add(b.Yard, k.Events, x); e == api.OK {
			k.Events = append(k.Events, x)
		}
	case "person":
		x, _ := person.ParseDecision(text)
		if _, e = person.Decide(b.Notes, k.Decisions, x); e == api.OK {
			k.Decisions = append(k.Decisions, x)
		}
	case "right":
		x, _ := right.ParseDeed(text)
		if _, e = right.Next(api.Rights{Laws: b.Laws, Deeds: k.Deeds}, x); e == api.OK {
			k.Deeds = append(k.Deeds, x)
		}
	case "money":
		x, _ := money.ParsePosting(text)
		if _, e = money.Post(k.Postings, x); e == api.OK {
			k.Postings = append(k.Postings, x)
		}
	case "rule":
		x, _ := rule.ParseProvision(text)
		if _, e = rule.Next(k.Provisions, x); e == api.OK {
			k.Provisions = append(k.Provisions, x)
		}
	}
	return e
}

// modelAnswer answers out of a state of facts of all kinds.
func modelAnswer(b api.Base, facts []api.Entry, q api.Query) string {
	k, _ := modelState(b, facts)
	day := q.At[1]
	var parts []string
	instead := "none"
	switch q.Kind {
	case api.AskRemain:
		instead = "unknown"
		if lot, e := grave.Where(b.Yard, k.Events, q.Name, day); e == api.OK {
			place := []string{"in keeping", fmt.Sprint("at ", lot.Site, " ", lot.Level), "gathered", "scattered at " + lot.Site}
			parts = append(parts, fmt.Sprint(place[lot.State], " since ", lot.Since))
		}
	case api.AskSite:
		lots, e := grave.Within(b.Yard, k.Events, q.Name, day)
		instead = map[bool]string{true: "nothing", false: "unknown"}[e == api.OK]
		for _, lot := range lots {
			parts = append(parts, fmt.Sprint(lot.Level, " ", lot.Remain))
		}
	case api.AskHolders:
		holders, _ := right.Holders(api.Rights{Laws: b.Laws, Deeds: k.Deeds}, q.Name, day)
		for _, p := range holders {
			parts = append(parts, fmt.Sprintf("%s %d/%d", p.Name, p.Share.Num, p.Share.Den))
			parts[len(parts)-1] = strings.Replace(" "+parts[len(parts)-1], "  ", " ? ", 1)[1:]
		}
	case api.AskValue:
		if n, e := rule.Value(k.Provisions, q.Name, [2]int{day, q.At[0]}); e == api.OK {
			parts = append(parts, fmt.Sprint(n))
		}
	case api.AskBalance:
		n, _ := money.Balance(k.Postings, q.Name, day)
		parts = append(parts, fmt.Sprint(n))
	case api.AskClass:
		class, _ := person.ClassOf(b.Notes, k.Decisions, q.Number)
		for _, n := range class {
			parts = append(parts, fmt.Sprint(n))
		}
	}
	if len(parts) == 0 {
		return instead
	}
	return strings.Join(parts, ", ")
}

// modelSearch crosses out facts, of whatever kinds.
func modelSearch(b api.Base, l []api.Entry, q api.Query) api.Finding {
	facts := modelHolding(l, q.At)
	out := map[api.Entry]bool{}
	left := func() []api.Entry {
		return slices.DeleteFunc(slices.Clone(facts), func(e api.Entry) bool { return out[e] })
	}
	answer := modelAnswer(b, facts, q)
	for round := true; round; {
		round = false
		for _, e := range slices.Backward(left()) {
			out[e] = true
			if modelAnswer(b, left(), q) == answer {
				round = true
			} else {
				delete(out, e)
			}
		}
	}
	var keys []api.Key
	for _, e := range canonical(left()) {
		keys = append(keys, key(e.Office, e.Number))
	}
	return api.Finding{Answer: answer, Keys: keys}
}

// modelRecover tries all beginnings of lines, the longest one first.
func modelRecover(text string) ([]api.Entry, int) {
	lines := strings.SplitAfter(text, "\n")
	for n := len(lines) - 1; n > 0; n-- {
		beginning := strings.Join(lines[:n], "")
		var l []api.Entry
		for _, line := range lines[:n] {
			e, _ := office.ParseEntry(line[:max(0, strings.LastIndex(line, " #"))])
			l = append(l, e)
		}
		if again, e := office.Journal(l); e == api.OK && again == beginning && slices.Equal(l, canonical(l)) {
			return l, len(beginning)
		}
	}
	return nil, 0
}

// shortRests is a base in which much may happen within some days.
func shortRests() api.Base {
	b := quarters()
	b.Notes = 5
	b.Yard.Rests = []api.Rest{{Soil: 1, Container: api.Coffin, Days: 6}, {Soil: 1, Container: api.Urn, Days: 3}}
	b.Laws = append(b.Laws, api.Law{From: 12, Stems: true, Spouse: api.Frac{Num: 1, Den: 2}})
	return b
}

// lastModelDay is the last day of random stories.
const lastModelDay = 24

var someOffices = []string{"main", "lodge", "a-b"}

// anyFact is the kinds of random facts.
var anyFact = []int{api.AskRemain, api.AskSite, api.AskHolders, api.AskValue, api.AskBalance, api.AskClass}

// randomFact returns the text of a fact of a day, entered on another one, that matters to a kind of
// queries. Many are refused.
func randomFact(r *rand.Rand, kind, entered, day int) string {
	pick := func(l ...string) string { return pickOne(r, l) }
	remain, site, who, whom, place := pick("x", "y", "z", "t"), pick("a", "a", "v", "n", "s"), pick("ann", "bob", "cat", "dan"), pick("ann", "bob", "cat", "dan"), pick("a1", "b1")
	switch kind {
	case api.AskRemain, api.AskSite:
		if r.Intn(3) > 0 {
			return fmt.Sprintf("grave bury %d %s %d %s %d", day, site, r.Intn(3), remain, r.Intn(3))
		}
		return "grave " + pick(fmt.Sprintf("exhume %d %s", day, remain), fmt.Sprintf("exhume %d %s order", day, remain), fmt.Sprintf("gather %d %s", day, remain),
			fmt.Sprintf("lower %d 0 %s", day, remain), fmt.Sprintf("rebury %d %s %d %s %d", day, site, r.Intn(3), remain, r.Intn(3)))
	case api.AskHolders:
		return "right " + pick(fmt.Sprintf("grant %d %s - 1 0 %s 1 1", day, place, who), fmt.Sprintf("grant %d %s - 1 0 %s 1 2 dan 1 2", day, place, who),
			fmt.Sprintf("transfer %d %s %s 0 0 %s 1 3", day, place, who, whom), fmt.Sprintf("death %d - %s 0 0", day, who), fmt.Sprintf("child %d - %s 0 0 %s 0 0", day, who, whom),
			fmt.Sprintf("marriage %d - %s 0 0 %s 0 0", day, who, whom), fmt.Sprintf("will %d - %s 0 0 %s 1 2", day, who, whom))
	case api.AskValue:
		return fmt.Sprintf("rule %s %s %d %d", pick("fee", "tax"), pick("1", "2", "repeal"), day, entered)
	case api.AskBalance:
		return fmt.Sprintf("money %d %d %s %s", day, r.Intn(4), pick("bank", "fees", "cash"), pick("bank", "fees", "cash"))
	}
	return fmt.Sprintf("person %s %d %d", pick("same", "same", "different"), r.Intn(6), r.Intn(5))
}

// randomEntry returns an entry that is right by itself: a fact of one of some kinds, or a withdrawal.
func randomEntry(r *rand.Rand, kinds []int, name string, number, entered int) api.Entry {
	day := r.Intn(lastModelDay)
	if r.Intn(3) == 0 {
		day = entered
	}
	for {
		e := entry(name, number, entered, day, randomFact(r, pickOne(r, kinds), entered, day))
		if r.Intn(7) == 0 {
			e.Day, e.Text = entered, fmt.Sprintf("withdraw %s %d", pickOne(r, someOffices), 1+r.Intn(6))
		}
		if office.CheckEntry(e) == api.OK {
			return e
		}
	}
}

// randomEntries returns right entries of some offices, in any order.
func randomEntries(r *rand.Rand, most int) []api.Entry { return randomOf(r, anyFact, most) }

// randomAbout returns a query, and entries many of which may matter to it.
func randomAbout(r *rand.Rand, most int) (api.Query, []api.Entry) {
	q := randomQuery(r)
	if r.Intn(3) == 0 {
		return q, randomEntries(r, most)
	}
	return q, randomOf(r, []int{q.Kind}, most)
}

func randomOf(r *rand.Rand, kinds []int, most int) []api.Entry {
	var l []api.Entry
	for _, name := range someOffices {
		entered := 0
		for i := range r.Intn(most) {
			entered = min(lastModelDay, entered+r.Intn(4))
			l = append(l, randomEntry(r, kinds, name, i+1, entered))
		}
	}
	return shuffled(r, l)
}

func shuffled[T any](r *rand.Rand, l []T) []T {
	l = slices.Clone(l)
	r.Shuffle(len(l), func(i, j int) { l[i], l[j] = l[j], l[i] })
	return l
}

// randomQuery returns a right query about the base with short rests.
func randomQuery(r *rand.Rand) api.Query {
	at := [2]int{r.Intn(lastModelDay + 2), r.Intn(lastModelDay + 2)}
	if r.Intn(2) == 0 {
		at = [2]int{lastModelDay + 1, lastModelDay + 1}
	}
	kind := r.Intn(6)
	if kind == api.AskClass {
		return api.Query{Kind: kind, Number: r.Intn(5), At: at}
	}
	names := [][]string{{"x", "y", "z", "t", "q"}, {"a", "v", "n", "s", "b"}, {"a1", "b1", "c1"}, {"fee", "tax", "x"}, {"bank", "fees", "cash", "x"}}
	return api.Query{Kind: kind, Name: pickOne(r, names[kind]), At: at}
}
