package office_test

import (
	"fmt"
	"math/rand"
	"slices"
	"strings"
	"testing"

	"mortsafe/api"
	"mortsafe/office"
)

// modelOffice is an office that looks through all of its entries each time.
type modelOffice struct {
	name string
	l    []api.Entry
}

// own returns the entries of the office itself, by their numbers.
func (o *modelOffice) own() []api.Entry {
	return canonical(slices.DeleteFunc(slices.Clone(o.l), func(e api.Entry) bool { return e.Office != o.name }))
}

func (o *modelOffice) enter(entered, day int, text string) (int, api.Errno) {
	if len(o.l) >= 300 {
		return 0, api.ErrLarge
	}
	own := o.own()
	e := entry(o.name, len(own)+1, entered, day, text)
	if wrong := office.CheckEntry(e); wrong != api.OK {
		return 0, wrong
	}
	if len(own) > 0 && entered < own[len(own)-1].Entered {
		return 0, api.ErrOrder
	}
	isNamed := func(x api.Entry) bool {
		return !isWithdrawal(x) && text == fmt.Sprintf("withdraw %s %d", x.Office, x.Number)
	}
	if isWithdrawal(e) {
		i := slices.IndexFunc(o.l, isNamed)
		if i < 0 {
			return 0, api.ErrMissing
		}
		if isWithdrawn(o.l, o.l[i], 1000000) {
			return 0, api.ErrState
		}
	}
	o.l = with(o.l, e)
	return e.Number, api.OK
}

func (o *modelOffice) undo(entered int) (int, api.Errno) {
	for _, e := range slices.Backward(o.own()) {
		if isWithdrawal(e) || isWithdrawn(o.l, e, 1000000) {
			continue
		}
		if _, wrong := o.enter(entered, entered, fmt.Sprintf("withdraw %s %d", o.name, e.Number)); wrong != api.OK {
			return 0, wrong
		}
		return e.Number, api.OK
	}
	return 0, api.ErrNone
}

func (o *modelOffice) take(l []api.Entry) api.Errno {
	if e := office.CheckEntries(l); e != api.OK {
		return e
	}
	merged, e := modelMerge(o.l, l)
	if e != api.OK {
		return e
	}
	if before := o.own(); len((&modelOffice{o.name, merged}).own()) > len(before) {
		return api.ErrState
	}
	o.l = merged
	return api.OK
}

// pair is an office, and its model.
type pair struct {
	*office.Office
	model *modelOffice
}

func newPair(t *testing.T, name string) pair {
	t.Helper()
	o, e := office.New(name, shortRests())
	if e != api.OK {
		t.Fatal(e)
	}
	return pair{o, &modelOffice{name: name}}
}

// act does something with an office and with its model, and returns both results and errors. Some
// is done by lines of the console.
func (p pair) act(r *rand.Rand, others []pair, day int) [2]string {
	told := func(n int, e api.Errno) string {
		if e != api.OK {
			return fmt.Sprint("error ", int(e))
		}
		return fmt.Sprint(n)
	}
	switch r.Intn(8) {
	case 0:
		return [2]string{told(p.Undo(day)), told(p.model.undo(day))}
	case 1:
		return [2]string{p.Do(fmt.Sprint("undo ", day)), told(p.model.undo(day))}
	case 2, 3:
		l := beginningOf(r, pickOne(r, others).Entries())
		if r.Intn(5) == 0 {
			l = randomEntries(r, 4)
		}
		return [2]string{told(0, p.Take(l)), told(0, p.model.take(l))}
	}
	e := randomEntry(r, anyFact, p.model.name, 1, day)
	if r.Intn(5) == 0 {
		e.Text = pickOne(r, []string{"withdraw main 1", "withdraw main 2", "withdraw lodge 1", "withdraw lodge 2", "withdraw a-b 3"})
	}
	if r.Intn(20) == 0 {
		e.Day++
	}
	if r.Intn(2) == 0 {
		return [2]string{p.Do(fmt.Sprintf("enter %d %d %s", e.Entered, e.Day, e.Text)), told(p.model.enter(e.Entered, e.Day, e.Text))}
	}
	return [2]string{told(p.Enter(e.Entered, e.Day, e.Text)), told(p.model.enter(e.Entered, e.Day, e.Text))}
}

// questions returns lines of the console that ask, and their answers as the model has them.
func (p pair) questions(r *rand.Rand) []do {
	b, q := shortRests(), randomQuery(r)
	text := fmt.Sprint(q.At[0], " ", q.At[1], " ", []string{"remain", "site", "holders", "value", "balance", "class"}[q.Kind], " ", q.Name)
	if q.Kind == api.AskClass {
		text += fmt.Sprint(q.Number)
	}
	f := modelSearch(b, p.model.l, q)
	keys := strings.Join(repeat(len(f.Keys), func(i int) string { return fmt.Sprint(f.Keys[i].Office, " ", f.Keys[i].Number) }), ", ")
	if keys == "" {
		keys = "nothing"
	}
	_, refused := modelState(b, modelHolding(p.model.l, q.At))
	lines := canonical(p.model.l)
	journal := journalOf(repeat(len(lines), func(i int) string { return office.FormatEntry(lines[i]) })...)
	return []do{
		{"ask " + text, f.Answer}, {"why " + text, keys}, {fmt.Sprint("refused ", q.At[0], " ", q.At[1]), fmt.Sprint(len(refused))}, {"journal", fmt.Sprint(len(journal))},
	}
}

// P10.8, P10.9: random offices, which take entries of each other.
func TestRandomOffices(t *testing.T) {
	r := rand.New(rand.NewSource(121))
	found := map[string]int{}
	for range 200 {
		all := repeat(3, func(i int) pair { return newPair(t, someOffices[i]) })
		for i := range 40 {
			p := pickOne(r, all)
			before := p.Entries()
			got := p.act(r, all, i/2+r.Intn(3))
			found[got[0]]++
			if got[0] != got[1] {
				t.Fatal(got, before)
			}
			if strings.HasPrefix(got[0], "error") {
				check(t, "the entries behind an error", p.Entries(), api.OK, before)
			}
			check(t, "the entries", p.Entries(), api.OK, canonical(p.model.l))
		}
		for _, p := range all {
			checkLines(t, p.Office, p.questions(r)...)
		}
		if t.Failed() {
			t.FailNow()
		}
	}
	for _, e := range []api.Errno{api.ErrMissing, api.ErrState, api.ErrNone, api.ErrOrder, api.ErrDate, api.ErrClash} {
		if text := fmt.Sprint("error ", int(e)); found[text] < 20 {
			t.Error(text, found)
		}
	}
}
