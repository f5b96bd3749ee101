package office_test

import (
	"math/rand"
	"slices"
	"strconv"
	"strings"
	"testing"

	"mortsafe/api"
	"mortsafe/grave"
	"mortsafe/office"
)

// The examples of the chapter.
func TestExamples(t *testing.T) {
	main, lodge := open(t, "main"), open(t, "lodge")
	checkLines(t, main, do{"enter 100 100 grave bury 100 a 0 x 0", "1"}, do{"enter 205 200 grave bury 200 a 1 y 0", "2"}, do{"ask 204 200 site a", "0 x"}, do{"ask 205 200 site a", "0 x, 1 y"})
	checkLines(t, lodge, do{"enter 150 150 grave bury 150 a 1 z 0", "1"})
	if e := main.Take(lodge.Entries()); e != api.OK {
		t.Fatal(e)
	}
	if e := lodge.Take(main.Entries()); e != api.OK {
		t.Fatal(e)
	}
	check(t, "example 2: the entries", main.Entries(), api.OK, lodge.Entries())
	facts, e := office.Facts(main.Entries(), 205)
	check(t, "example 2: the facts", facts, e, []api.Entry{story()[1], story()[0], story()[2]})
	_, refused, e := office.State(base(), main.Entries(), [2]int{205, 205})
	check(t, "example 2: the refusal", refused, e, []api.Refusal{{Entry: story()[2], Err: api.ErrFull}})
	checkLines(t, main, do{"enter 300 300 withdraw lodge 1", "3"}, do{"ask 300 300 remain y", "at a 1 since 200"}, do{"ask 299 300 remain y", "unknown"})
	check(t, "example 3", main.Entries(), api.OK, story())
	answer, keys, e := office.Search(base(), main.Entries(), query(api.AskRemain, "y", 300, 300))
	check(t, "example 4", finding(answer, keys...), e, finding("at a 1 since 200", key("main", 2)))
	n, e := main.Undo(301)
	check(t, "example 5", n, e, 2)
	checkLines(t, main, do{"ask 301 301 site a", "0 x"}, do{"why 301 301 site a", "main 1"})
}

// P10.1, P10.3: random lists, right together or not, and their merges.
func TestRandomLists(t *testing.T) {
	r := rand.New(rand.NewSource(110))
	found := map[api.Errno]int{}
	for range 5000 {
		l := repeat(r.Intn(5), func(int) api.Entry {
			return randomEntry(r, anyFact, pickOne(r, someOffices[:2]), 1+r.Intn(3), r.Intn(3))
		})
		want := modelTogether(l)
		if e := office.CheckEntries(l); e != want {
			t.Fatal(l, e, want)
		}
		found[want]++
	}
	for range 5000 {
		all := randomEntries(r, 6)
		a, b := beginningOf(r, all), beginningOf(r, all)
		if r.Intn(3) == 0 {
			b = randomEntries(r, 3)
		}
		want, wrong := modelMerge(a, b)
		l, e := office.Merge(a, b)
		checkAnswer(t, "Merge", l, e, want, wrong)
		found[e]++
	}
	for _, e := range []api.Errno{api.OK, api.ErrExists, api.ErrGap, api.ErrOrder, api.ErrClash} {
		if found[e] < 100 {
			t.Error(found)
		}
	}
}

// beginningOf returns entries of some, in any order: of each office the first ones.
func beginningOf(r *rand.Rand, l []api.Entry) []api.Entry {
	var some []api.Entry
	for _, name := range someOffices {
		most := r.Intn(7)
		for _, e := range l {
			if e.Office == name && e.Number <= most {
				some = append(some, e)
			}
		}
	}
	return shuffled(r, some)
}

// P10.4: random facts and states.
func TestRandomStates(t *testing.T) {
	r := rand.New(rand.NewSource(111))
	b := shortRests()
	taken, refusals := api.Known{}, map[api.Errno]int{}
	for range 1000 {
		l := randomEntries(r, 14)
		for range 6 {
			at := randomQuery(r).At
			keys, e := office.Withdrawn(l, at[0])
			check(t, "Withdrawn", keys, e, modelWithdrawn(l, at[0]))
			facts, e := office.Facts(l, at[0])
			check(t, "Facts", facts, e, modelFacts(l, at[0]))
			want, left := modelState(b, modelHolding(l, at))
			k, refused, e := office.State(b, l, at)
			check(t, "State", k, e, want)
			check(t, "State: refusals", refused, e, left)
			taken = api.Known{Events: append(taken.Events, k.Events...), Decisions: append(taken.Decisions, k.Decisions...), Deeds: append(taken.Deeds, k.Deeds...),
				Postings: append(taken.Postings, k.Postings...), Provisions: append(taken.Provisions, k.Provisions...)}
			for _, x := range refused {
				refusals[x.Err]++
			}
		}
		if t.Failed() {
			t.Fatal(l)
		}
	}
	if min(len(taken.Events), len(taken.Decisions), len(taken.Deeds), len(taken.Postings), len(taken.Provisions)) < 1000 {
		t.Error("few facts are taken")
	}
	for _, e := range []api.Errno{api.ErrExists, api.ErrMissing, api.ErrKind, api.ErrFull, api.ErrBusy, api.ErrRest, api.ErrState, api.ErrClash, api.ErrForm, api.ErrRight, api.ErrRange} {
		if refusals[e] < 20 {
			t.Error("few facts are refused", e, refusals)
		}
	}
}

// P10.5: random queries: answers, and the entries on which they depend.
func TestRandomSearches(t *testing.T) {
	r := rand.New(rand.NewSource(112))
	b := shortRests()
	depends := map[[2]int]int{}
	for range 4000 {
		q, l := randomAbout(r, 12)
		want := modelSearch(b, l, q)
		s, e := office.Answer(b, l, q)
		check(t, "Answer", s, e, want.Answer)
		s, keys, e := office.Search(b, l, q)
		check(t, "Search", finding(s, keys...), e, want)
		depends[[2]int{q.Kind, len(keys)}]++
		if e := office.CheckSearch(b, l, q, finding(s, keys...)); e != api.OK {
			t.Error("CheckSearch", e)
		}
		if t.Failed() {
			t.Fatal(l, q)
		}
	}
	for kind := range api.AskClass + 1 {
		if depends[[2]int{kind, 0}] < 20 || depends[[2]int{kind, 1}] < 20 || kind != api.AskValue && depends[[2]int{kind, 2}] < 5 {
			t.Error("few searches", kind, depends)
		}
	}
}

// P10.5: random findings are accepted just if none of their facts can be left out.
func TestRandomFindings(t *testing.T) {
	r := rand.New(rand.NewSource(113))
	b := shortRests()
	found := map[api.Errno]int{}
	for range 1500 {
		q, l := randomAbout(r, 9)
		facts := modelHolding(l, q.At)
		right := modelSearch(b, l, q)
		some := canonical(slices.DeleteFunc(slices.Clone(facts), func(e api.Entry) bool {
			return r.Intn(4) == 0 || r.Intn(3) != 0 && !slices.Contains(right.Keys, key(e.Office, e.Number))
		}))
		f := finding(right.Answer, repeat(len(some), func(i int) api.Key { return key(some[i].Office, some[i].Number) })...)
		some = slices.DeleteFunc(slices.Clone(facts), func(e api.Entry) bool { return !slices.Contains(some, e) })
		want := api.OK
		if modelAnswer(b, some, q) != f.Answer {
			want = api.ErrProof
		}
		for i := range some {
			if modelAnswer(b, slices.Delete(slices.Clone(some), i, i+1), q) == f.Answer {
				want = api.ErrProof
			}
		}
		if e := office.CheckSearch(b, l, q, f); e != want {
			t.Fatal(l, q, f, e, want)
		}
		found[want]++
	}
	if found[api.OK] < 100 || found[api.ErrProof] < 100 {
		t.Error(found)
	}
}

// P10.6, P10.10: random registers: a remain is in one line of the register; what it says lies at a
// site stands in the map, and nothing else. Lines are the answers to queries.
func TestRandomRegisters(t *testing.T) {
	r := rand.New(rand.NewSource(114))
	b := shortRests()
	found := map[string]int{}
	for range 1000 {
		l := randomEntries(r, 14)
		at := randomQuery(r).At
		register, e := office.Register(b, l, at)
		plan, wrong := office.Map(b, l, at)
		ledger, failed := office.Ledger(b, l, at)
		if e != api.OK || wrong != api.OK || failed != api.OK {
			t.Fatal(l, e, wrong, failed)
		}
		there := map[string][]string{}
		want := ""
		for _, remain := range []string{"t", "x", "y", "z"} {
			s, e := office.Answer(b, l, query(api.AskRemain, remain, at[0], at[1]))
			if e != api.OK || s == "unknown" {
				continue
			}
			want += remain + ": " + s + "\n"
			words := strings.Fields(s)
			found[words[0]]++
			switch words[0] {
			case "at":
				there[words[1]] = append(there[words[1]], words[2]+" "+remain)
			case "scattered":
				there[words[2]] = append(there[words[2]], "0 "+remain)
			}
		}
		check(t, "Register", register, api.OK, want)
		want = ""
		for _, site := range []string{"a", "v", "n", "s"} {
			slices.Sort(there[site])
			text := strings.Join(there[site], ", ")
			if text == "" {
				text = "nothing"
			}
			want += site + ": " + text + "\n"
		}
		check(t, "Map", plan, api.OK, want)
		sum := 0
		for _, text := range strings.Fields(ledger) {
			n, _ := strconv.Atoi(text)
			sum += n
		}
		for _, account := range []string{"bank", "cash", "fees"} {
			s, e := office.Answer(b, l, query(api.AskBalance, account, at[0], at[1]))
			if e != api.OK || s != "0" && !strings.Contains("\n"+ledger, "\n"+account+": "+s+"\n") {
				t.Error(account, s, ledger)
			}
		}
		if sum != 0 || !slices.IsSorted(strings.Split(strings.TrimSuffix(ledger, "\n"), "\n")) {
			t.Error("the ledger", ledger)
		}
		if t.Failed() {
			t.Fatal(l)
		}
	}
	if min(found["at"], found["in"], found["gathered"], found["scattered"]) < 20 {
		t.Error(found)
	}
}

// P10.10: Merge is commutative and associative, and merging twice changes nothing.
func TestMergesAgree(t *testing.T) {
	r := rand.New(rand.NewSource(115))
	merged := func(a, b []api.Entry) []api.Entry {
		l, e := office.Merge(a, b)
		if e != api.OK {
			t.Fatal(a, b, e)
		}
		return l
	}
	for range 1000 {
		all := randomEntries(r, 7)
		a, b, c := beginningOf(r, all), beginningOf(r, all), beginningOf(r, all)
		ab := merged(a, b)
		check(t, "commutative", merged(b, a), api.OK, ab)
		check(t, "associative", merged(ab, c), api.OK, merged(a, merged(b, c)))
		check(t, "twice", merged(ab, b), api.OK, ab)
		check(t, "with itself", merged(ab, ab), api.OK, ab)
	}
}

// known is all that is told of a state.
type known struct {
	state            api.Known
	refused          []api.Refusal
	facts            []api.Entry
	registers        [3]string
	answer, depended string
}

func knownOf(t *testing.T, b api.Base, l []api.Entry, q api.Query) known {
	t.Helper()
	var k known
	var errors [7]api.Errno
	var keys []api.Key
	k.state, k.refused, errors[0] = office.State(b, l, q.At)
	k.facts, errors[1] = office.Facts(l, q.At[0])
	k.registers[0], errors[2] = office.Register(b, l, q.At)
	k.registers[1], errors[3] = office.Map(b, l, q.At)
	k.registers[2], errors[4] = office.Ledger(b, l, q.At)
	k.answer, errors[5] = office.Answer(b, l, q)
	_, keys, errors[6] = office.Search(b, l, q)
	for _, x := range keys {
		k.depended += x.Office + " " + strconv.Itoa(x.Number) + "\n"
	}
	if errors != [7]api.Errno{} {
		t.Fatal(l, q, errors)
	}
	return k
}

// checkSame compares what is told of two lists.
func checkSame(t *testing.T, what string, a, b []api.Entry, q api.Query) {
	t.Helper()
	x, y := knownOf(t, shortRests(), a, q), knownOf(t, shortRests(), b, q)
	same := equal(x.state, y.state) && equal(x.refused, y.refused) && equal(x.facts, y.facts) && x.registers == y.registers && x.answer == y.answer && x.depended == y.depended
	if !same {
		t.Fatal(what, a, b, q, x, y)
	}
}

// P10.10: the state does not depend on the order of the list; what is entered later changes
// nothing of what was known before, withdrawals included.
func TestWhatWasKnown(t *testing.T) {
	r := rand.New(rand.NewSource(116))
	withdrawn := 0
	for range 600 {
		q, l := randomAbout(r, 12)
		checkSame(t, "another order", l, shuffled(r, l), q)
		earlier := slices.DeleteFunc(slices.Clone(l), func(e api.Entry) bool { return e.Entered > q.At[0] })
		checkSame(t, "without what was entered later", l, earlier, q)
		keys, _ := office.Withdrawn(l, lastModelDay)
		before, _ := office.Withdrawn(earlier, q.At[0])
		withdrawn += len(keys) - len(before)
	}
	if withdrawn < 80 {
		t.Error(withdrawn)
	}
}

// P10.10: a fact that is withdrawn counts for what was known before, and for nothing behind that:
// the state is that without it.
func TestWithdrawnFacts(t *testing.T) {
	r := rand.New(rand.NewSource(117))
	for range 600 {
		q, l := randomAbout(r, 8)
		last := randomEntry(r, anyFact, "z", 1, lastModelDay)
		for isWithdrawal(last) {
			last = randomEntry(r, anyFact, "z", 1, lastModelDay)
		}
		more := with(l, last)
		both := with(more, entry("z", 2, lastModelDay+1, lastModelDay+1, "withdraw z 1"))
		q.At[0] = lastModelDay
		checkSame(t, "before the withdrawal", more, both, q)
		q.At[0] = lastModelDay + 1
		checkSame(t, "behind the withdrawal", l, both, q)
		again := with(both, entry("z", 3, lastModelDay+1, lastModelDay+1, "withdraw z 2"))
		checkSame(t, "a withdrawal of the withdrawal", both, again, q)
	}
}

// P10.7, P10.10: a recovered journal, cut anywhere, or with a wrong byte anywhere, has a beginning
// of the entries.
func TestDamagedJournals(t *testing.T) {
	r := rand.New(rand.NewSource(118))
	for range 40 {
		l := canonical(randomEntries(r, 8))
		text, e := office.Journal(l)
		if e != api.OK {
			t.Fatal(l, e)
		}
		lines := strings.SplitAfter(text, "\n")
		for cut := range len(text) + 1 {
			whole := strings.Count(text[:cut], "\n")
			got, n := office.Recover(text[:cut])
			check(t, "Recover of a cut journal", got, api.OK, l[:whole])
			if want := len(strings.Join(lines[:whole], "")); n != want {
				t.Fatal(text, cut, n, want)
			}
		}
		for at := range text {
			wrong := text[:at] + string(pickOne(r, []byte("0 #\nx"))) + text[at+1:]
			want, length := modelRecover(wrong)
			got, n := office.Recover(wrong)
			check(t, "Recover of a wrong journal", got, api.OK, want)
			if whole := strings.Count(text[:at], "\n"); n != length || len(got) < whole {
				t.Fatal(wrong, n, length)
			}
		}
		if t.Failed() {
			t.Fatal(text)
		}
	}
}

// P10.7: Recover undoes Journal of right entries, in canonical order; lines of several journals
// are a journal as far as they go together.
func TestRandomJournals(t *testing.T) {
	r := rand.New(rand.NewSource(119))
	for range 300 {
		l := randomEntries(r, 9)
		text, _ := office.Journal(l)
		want := repeat(len(l), func(i int) string { return office.FormatEntry(canonical(l)[i]) })
		check(t, "Journal", text, api.OK, journalOf(want...))
		got, n := office.Recover(text)
		check(t, "Recover", got, api.OK, canonical(l))
		check(t, "Recover: the bytes", n, api.OK, len(text))
		mixed := journalOf(repeat(r.Intn(6), func(int) string {
			return office.FormatEntry(randomEntry(r, anyFact, pickOne(r, someOffices), 1+r.Intn(2), r.Intn(3)))
		})...)
		wanted, length := modelRecover(mixed)
		got, n = office.Recover(mixed)
		check(t, "Recover of any lines", got, api.OK, wanted)
		check(t, "Recover of any lines: the bytes", n, api.OK, length)
	}
}

// P10.10: an office's state has one lot of each remain.
func TestOneLineOfEachRemain(t *testing.T) {
	r := rand.New(rand.NewSource(120))
	b := shortRests()
	for range 500 {
		l := randomEntries(r, 14)
		at := randomQuery(r).At
		k, _, _ := office.State(b, l, at)
		lots, e := grave.On(b.Yard, k.Events, at[1])
		register, _ := office.Register(b, l, at)
		check(t, "Register: the number of lines", strings.Count(register, "\n"), e, len(lots))
		for _, lot := range lots {
			if strings.Count("\n"+register, "\n"+lot.Remain+": ") != 1 {
				t.Fatal(l, register)
			}
		}
	}
}
