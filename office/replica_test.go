package office_test

import (
	"slices"
	"strconv"
	"strings"
	"testing"

	"mortsafe/api"
	"mortsafe/office"
)

// open returns an office without entries.
func open(t *testing.T, name string) *office.Office {
	t.Helper()
	o, e := office.New(name, base())
	if o == nil || e != api.OK {
		t.Fatal(name, e)
	}
	return o
}

// opened returns an office that has taken the entries of others, and then entered its own ones.
func opened(t *testing.T, name string, l []api.Entry) *office.Office {
	t.Helper()
	o := open(t, name)
	isOwn := func(e api.Entry) bool { return e.Office == name }
	if e := o.Take(slices.DeleteFunc(slices.Clone(l), isOwn)); e != api.OK {
		t.Fatal(e)
	}
	for _, e := range l {
		if !isOwn(e) {
			continue
		}
		if n, wrong := o.Enter(e.Entered, e.Day, e.Text); n != e.Number || wrong != api.OK {
			t.Fatal(e, n, wrong)
		}
	}
	return o
}

// checkStays compares an error of an office, which must have changed nothing.
func checkStays(t *testing.T, what string, o *office.Office, before []api.Entry, n int, e, want api.Errno) {
	t.Helper()
	checkError(t, what, []any{n}, e, want)
	check(t, what+": the entries", o.Entries(), api.OK, before)
}

// P10.8: offices have names, and a base without errors.
func TestNew(t *testing.T) {
	for _, name := range rightNames {
		if o := open(t, name); len(o.Entries()) != 0 {
			t.Error(name, o.Entries())
		}
	}
	for _, name := range wrongNames {
		o, e := office.New(name, base())
		checkError(t, "New of "+strconv.Quote(name), []any{o}, e, api.ErrName)
	}
}

// P10.8: entries have the numbers of their office, in the order in which they were entered,
// whatever other offices have.
func TestEnter(t *testing.T) {
	o := open(t, "main")
	for i, e := range []api.Entry{
		entry("main", 1, 100, 100, "grave bury 100 a 0 x 0"), entry("main", 2, 205, 200, "grave bury 200 a 1 y 0"), entry("main", 3, 205, 0, "rule fee 1 0 205"), entry("main", 4, 205, 200000, "person same 7 7"),
		entry("main", 5, 206, 206, "withdraw main 4"), entry("main", 6, 200000, 1, "money 1 0 a a"),
	} {
		if i == 3 {
			if wrong := o.Take(numberedFrom("zoo", 5, "person same 0 1", "person same 0 1")); wrong != api.OK {
				t.Fatal(wrong)
			}
		}
		n, wrong := o.Enter(e.Entered, e.Day, e.Text)
		check(t, "Enter", n, wrong, i+1)
		l := o.Entries()
		check(t, "Enter: the entry", l[i], api.OK, e)
	}
	if l := o.Entries(); len(l) != 8 || l[6].Office != "zoo" {
		t.Error(l)
	}
}

// P10.8: the errors of an entry, then those of its day and of what it withdraws.
func TestWrongEnters(t *testing.T) {
	o := opened(t, "main", with(story(), numberedFrom("b", 5, "person same 0 1", "withdraw main 2")...))
	before := o.Entries()
	for text, want := range wrongTexts() {
		n, e := o.Enter(5, 7, text)
		checkStays(t, "Enter "+strconv.Quote(text), o, before, n, e, want)
	}
	for _, day := range noDays {
		for _, text := range []string{"frob", "withdraw main 9", "person same 0 1"} {
			n, e := o.Enter(day, 300, text)
			checkStays(t, "Enter on no day", o, before, n, e, api.ErrRange)
			n, e = o.Enter(300, day, text)
			checkStays(t, "Enter of no day", o, before, n, e, api.ErrRange)
		}
	}
	for _, c := range []struct {
		entered, day int
		text         string
		want         api.Errno
	}{
		{299, 300, "person same 0 1", api.ErrOrder}, {0, 0, "person same 0 1", api.ErrOrder}, {299, 299, "withdraw main 9", api.ErrOrder}, {299, 299, "withdraw main 2", api.ErrOrder}, {299, 299, "withdraw b 1", api.ErrOrder},
		{299, 300, "withdraw b 1", api.ErrDate}, {300, 300, "withdraw main 9", api.ErrMissing}, {300, 300, "withdraw main 3", api.ErrMissing}, {300, 300, "withdraw main 4", api.ErrMissing},
		{300, 300, "withdraw b 2", api.ErrMissing}, {300, 300, "withdraw b 3", api.ErrMissing}, {300, 300, "withdraw nobody 1", api.ErrMissing}, {300, 300, "withdraw lodge 1", api.ErrState},
		{300, 300, "withdraw main 2", api.ErrState}, {200000, 200000, "withdraw main 2", api.ErrState},
	} {
		n, e := o.Enter(c.entered, c.day, c.text)
		checkStays(t, "Enter "+c.text, o, before, n, e, c.want)
	}
	for i, text := range []string{"withdraw b 1", "withdraw main 1"} {
		n, e := o.Enter(300, 300, text)
		check(t, "Enter "+text, n, e, 4+i)
		n, e = o.Enter(300, 300, text)
		checkError(t, "Enter "+text+" again", []any{n}, e, api.ErrState)
	}
}

// P10.8: a fact that is withdrawn on a later day is withdrawn already.
func TestWithdrawnLater(t *testing.T) {
	o := opened(t, "main", with(numberedFrom("main", 5, "person same 0 1", "person same 0 1"), numberedFrom("z", 900, "withdraw main 2")...))
	before := o.Entries()
	n, e := o.Enter(6, 6, "withdraw main 2")
	checkStays(t, "Enter", o, before, n, e, api.ErrState)
	n, e = o.Undo(6)
	check(t, "Undo", n, e, 1)
	n, e = o.Undo(6)
	checkError(t, "Undo of nothing", []any{n}, e, api.ErrNone)
	last := opened(t, "main", with(numberedFrom("main", 5, "person same 0 1"), numberedFrom("z", 200000, "withdraw main 1")...))
	n, e = last.Enter(6, 6, "withdraw main 1")
	checkStays(t, "Enter", last, last.Entries(), n, e, api.ErrState)
	n, e = last.Undo(6)
	checkError(t, "Undo of nothing", []any{n}, e, api.ErrNone)
}

// P10.8: an office has at most 300 entries, with those of others.
func TestFullOffices(t *testing.T) {
	o := opened(t, "main", with(many("z", 200), many("main", 99)...))
	n, e := o.Enter(99, 5, "person same 0 1")
	check(t, "Enter of the last one", n, e, 100)
	before := o.Entries()
	for _, text := range []string{"person same 0 1", "frob", "withdraw main 301"} {
		for _, day := range []int{99, -1, 0} {
			n, e := o.Enter(day, day, text)
			checkStays(t, "Enter", o, before, n, e, api.ErrLarge)
		}
	}
	for _, day := range []int{99, -1, 0} {
		n, e = o.Undo(day)
		checkStays(t, "Undo", o, before, n, e, api.ErrLarge)
	}
	if e := o.Take(before); e != api.OK {
		t.Error(e)
	}
	checkStays(t, "Take of one too many", o, before, 0, o.Take(many("z", 201)), api.ErrLarge)
	checkStays(t, "Take of one too many that is not its own", o, before, 0, o.Take(with(many("main", 101), many("z", 1)...)), api.ErrLarge)
	full := opened(t, "main", with(many("z", 299), numberedFrom("main", 5, "withdraw z 1")...))
	n, e = full.Undo(-1)
	checkStays(t, "Undo without facts", full, full.Entries(), n, e, api.ErrNone)
}

// P10.8: Undo withdraws the last fact of the office that is not withdrawn, by whomever.
func TestUndo(t *testing.T) {
	o := opened(t, "main", with(story(), numberedFrom("z", 900, "person same 0 1")...))
	for _, c := range []struct{ entered, number int }{{301, 2}, {301, 1}} {
		n, e := o.Undo(c.entered)
		check(t, "Undo", n, e, c.number)
		l := o.Entries()
		check(t, "Undo: the entry", l[len(l)-2], api.OK, entry("main", 6-c.number, c.entered, c.entered, "withdraw main "+strconv.Itoa(c.number)))
	}
	for _, day := range []int{301, 300, -1} {
		n, e := o.Undo(day)
		checkStays(t, "Undo of nothing", o, o.Entries(), n, e, api.ErrNone)
	}
	other := opened(t, "main", with(numberedFrom("main", 5, "person same 0 1", "person same 0 2", "person same 1 2"), numberedFrom("a", 3, "withdraw main 3", "person same 0 1")...))
	before := other.Entries()
	for day, want := range map[int]api.Errno{-1: api.ErrRange, 200001: api.ErrRange, 4: api.ErrOrder, 0: api.ErrOrder} {
		n, e := other.Undo(day)
		checkStays(t, "Undo on a wrong day", other, before, n, e, want)
	}
	n, e := other.Undo(5)
	check(t, "Undo", n, e, 2)
	n, e = open(t, "main").Undo(5)
	checkError(t, "Undo of nothing", []any{n}, e, api.ErrNone)
}

// P10.8: Take adds entries of others, each once, also own ones that come back.
func TestTake(t *testing.T) {
	facts := story()[:3]
	o := opened(t, "main", facts[1:])
	for i, l := range [][]api.Entry{nil, {}, facts[1:], facts[1:2], {facts[2], facts[1]}} {
		if e := o.Take(l); e != api.OK {
			t.Error(i, e)
		}
		check(t, "Take of own entries", o.Entries(), api.OK, facts[1:])
	}
	for i, l := range [][]api.Entry{facts[:1], facts, {facts[0], facts[1]}, nil} {
		if e := o.Take(l); e != api.OK {
			t.Error(i, e)
		}
		check(t, "Take of another one", o.Entries(), api.OK, facts)
	}
	later := with(facts[:1], entry("lodge", 2, 150, 0, "person same 0 1"), entry("Zoo", 1, 0, 0, "withdraw main 1"))
	if e := o.Take(later); e != api.OK {
		t.Error(e)
	}
	check(t, "Take of later ones", o.Entries(), api.OK, with([]api.Entry{later[2], later[0], later[1]}, facts[1:]...))
}

// P10.8: the errors of Take; none changes anything.
func TestWrongTakes(t *testing.T) {
	o := opened(t, "main", story())
	other := story()[2]
	other.Entered++
	further := entry("main", 4, 300, 0, "person same 0 1")
	for _, c := range []wrong[[]api.Entry]{
		{with(story(), further), api.ErrState}, {with(story()[1:], further), api.ErrState}, {with(story()[1:], further, entry("b", 1, 5, 5, "person same 0 1")), api.ErrState},
		{[]api.Entry{further}, api.ErrGap}, {[]api.Entry{story()[1], other}, api.ErrClash}, {[]api.Entry{story()[1], other, entry("main", 3, 300, 300, "withdraw lodge 1"), further}, api.ErrClash},
		{with(story(), further, further), api.ErrExists}, {with(story(), entry("main", 4, 299, 0, "person same 0 1")), api.ErrOrder}, {[]api.Entry{entry("lodge", 1, 150, 150, "frob")}, api.ErrSyntax},
		{[]api.Entry{entry("lodge", 1, 150, 150, "grave bury 150 a 1 y 0")}, api.ErrClash}, {with(many("b", 296), further), api.ErrGap}, {with(with(many("b", 296), story()[1:]...), further), api.ErrLarge},
	} {
		checkStays(t, "Take", o, story(), 0, o.Take(c.x), c.want)
	}
	empty := open(t, "main")
	checkStays(t, "Take of own entries that were lost", empty, nil, 0, empty.Take(story()), api.ErrState)
	checkStays(t, "Take of own entries that were lost", empty, nil, 0, empty.Take(story()[1:2]), api.ErrState)
}

// P10.8, P10.9, R5: methods of no office.
func TestNoOffice(t *testing.T) {
	var o *office.Office
	n, e := o.Enter(5, 5, "person same 0 1")
	checkError(t, "Enter", []any{n}, e, api.ErrNil)
	n, e = o.Enter(-1, -1, strings.Repeat("\n", 300))
	checkError(t, "Enter", []any{n}, e, api.ErrNil)
	n, e = o.Undo(-1)
	checkError(t, "Undo", []any{n}, e, api.ErrNil)
	for _, l := range [][]api.Entry{nil, story(), wrongEntries()} {
		if e := o.Take(l); e != api.ErrNil {
			t.Error("Take", e)
		}
	}
	if l := o.Entries(); len(l) != 0 {
		t.Error("Entries", l)
	}
	for _, line := range []string{"", "journal", "undo 5", "enter 5 5 person same 0 1", "ask 5 5 site a", "why 5 5 site a", "refused 5 5"} {
		if s := o.Do(line); s != "?" {
			t.Error("Do", line, s)
		}
	}
}
