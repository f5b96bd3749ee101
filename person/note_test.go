package person_test

import (
	"strings"
	"testing"

	"mortsafe/api"
	"mortsafe/person"
)

// noteTests are entries and their errors.
var noteTests = []struct {
	what string
	note api.Note
	want api.Errno
}{
	{"ordinary", entry("Meier", 100, 200, 9000, 9100), api.OK},
	{"all days", entry("?", 0, api.MaxDay, 0, api.MaxDay), api.OK},
	{"first day", entry("a", 0, 0, 0, 0), api.OK},
	{"last day", entry("a", api.MaxDay, api.MaxDay, api.MaxDay, api.MaxDay), api.OK},
	{"died on the first day of birth", entry("a", 100, 200, 50, 100), api.OK},
	{"no name", entry("", 0, 0, 0, 0), api.ErrSyntax},
	{"wrong name", entry("[ba]", 0, 0, 0, 0), api.ErrSyntax},
	{"long name", entry(strings.Repeat("a", 25), 0, 0, 0, 0), api.ErrLarge},
	{"born before the first day", entry("a", -1, 5, 5, 5), api.ErrRange},
	{"born up to a day before the first one", entry("a", 5, -1, 5, 5), api.ErrRange},
	{"died before the first day", entry("a", 5, 5, -1, 5), api.ErrRange},
	{"died up to a day before the first one", entry("a", 5, 5, 5, -1), api.ErrRange},
	{"born behind the last day", entry("a", api.MaxDay+1, 5, 5, 5), api.ErrRange},
	{"born up to a day behind the last one", entry("a", 5, api.MaxDay+1, 5, 5), api.ErrRange},
	{"died behind the last day", entry("a", 5, 5, api.MaxDay+1, 5), api.ErrRange},
	{"died up to a day behind the last one", entry("a", 5, 5, 5, api.MaxDay+1), api.ErrRange},
	{"birth turned round", entry("a", 6, 5, 7, 8), api.ErrOrder},
	{"death turned round", entry("a", 5, 6, 8, 7), api.ErrOrder},
	{"died the day before the first day of birth", entry("a", 100, 200, 50, 99), api.ErrClash},
	{"died long before", entry("a", 100, 200, 0, 0), api.ErrClash},

	{"name before days", entry("1", -1, 5, 5, 5), api.ErrSyntax},
	{"long name before days", entry(strings.Repeat("a", 25), 6, 5, 5, -1), api.ErrLarge},
	{"days before order", entry("a", 6, 5, 5, -1), api.ErrRange},
	{"days of death before order of birth", entry("a", 6, 5, api.MaxDay+1, api.MaxDay+2), api.ErrRange},
	{"order before clash", entry("a", 100, 200, 50, 49), api.ErrOrder},
	{"order of birth before clash", entry("a", 100, 99, 50, 51), api.ErrOrder},
}

// P4.3: CheckNotes tells the errors of an entry in their order.
func TestCheckNotes(t *testing.T) {
	good := entry("Meier", 100, 200, 9000, 9100)
	for _, x := range noteTests {
		if e := person.CheckNotes(notes(x.note)); e != x.want {
			t.Error(x.what, e)
		}
		if e := person.CheckNotes(notes(good, x.note)); e != x.want {
			t.Error(x.what, "behind another one", e)
		}
		if e := person.CheckNotes(notes(x.note, good)); e != x.want {
			t.Error(x.what, "before another one", e)
		}
	}
}

// P4.3: the first entry with an error decides, and too many entries are told first.
func TestOrderOfEntries(t *testing.T) {
	for _, x := range noteTests {
		for _, y := range noteTests {
			want := x.want
			if want == api.OK {
				want = y.want
			}
			if e := person.CheckNotes(notes(x.note, y.note)); e != want {
				t.Error(x.what, y.what, e)
			}
		}
	}
	most := repeat(api.MaxNotes, always(named("a")))
	if e := person.CheckNotes(most); e != api.OK {
		t.Error(e)
	}
	if e := person.CheckNotes(with(most[1:], named(""))); e != api.ErrSyntax {
		t.Error(e)
	}
	for _, name := range []string{"a", ""} {
		if e := person.CheckNotes(with(most, named(name))); e != api.ErrLarge {
			t.Error(e)
		}
		if e := person.CheckNotes(with(notes(named(name)), most...)); e != api.ErrLarge {
			t.Error(e)
		}
	}
}

// P4.3: days that are far out of range are ErrRange, too.
func TestExtremeDays(t *testing.T) {
	for _, day := range extremes {
		for _, n := range notes(entry("a", day, 5, 5, 5), entry("a", 5, day, 5, 5), entry("a", 5, 5, day, 5), entry("a", 5, 5, 5, day), entry("a", day, day, day, day)) {
			if e := person.CheckNotes(notes(n)); e != api.ErrRange {
				t.Error(n, e)
			}
			if s, p, e := person.Score(n, n); s != 0 || p != [3]int{} || e != api.ErrRange {
				t.Error(n, s, p, e)
			}
		}
	}
}

// scoreTests are two entries and the parts of their score.
var scoreTests = []struct {
	what string
	a, b api.Note
	want [3]int
}{
	{"the chapter's example 3", entry("Meier", 100, 200, 9000, 9100), entry("Meier", 100, 200, 9465, 9500), [3]int{60, 30, -21}},
	{"one change", entry("Maier", 0, 0, 0, 0), entry("Meier", 0, 0, 0, 0), [3]int{40, 30, 30}},
	{"three changes", entry("a", 0, 0, 0, 0), entry("bcd", 0, 0, 0, 0), [3]int{0, 30, 30}},
	{"four changes", entry("a", 0, 0, 0, 0), entry("bcde", 0, 0, 0, 0), [3]int{-20, 30, 30}},
	{"24 changes", named("a"), named(strings.Repeat("b", 24)), [3]int{-420, 30, 30}},
	{"a doubtful sign", named("M[ae]ier"), named("Me[iy]er"), [3]int{60, 30, 30}},
	{"ranges of 400 days", entry("a", 0, 399, 1000, 1399), entry("a", 399, 798, 1399, 1798), [3]int{60, 30, 30}},
	{"a range of 401 days of birth", entry("a", 0, 400, 1000, 1000), entry("a", 100, 100, 1000, 1000), [3]int{60, 10, 30}},
	{"a range of 401 days of death", entry("a", 0, 0, 1000, 1400), entry("a", 0, 0, 1000, 1000), [3]int{60, 30, 10}},
	{"both long", entry("a", 0, 5000, 5000, 9000), entry("a", 10, 4000, 6000, 7000), [3]int{60, 10, 10}},
	{"one day in common", entry("a", 0, 50, 100, 150), entry("a", 50, 90, 150, 160), [3]int{60, 30, 30}},
	{"neighbouring days", entry("a", 0, 50, 100, 150), entry("a", 51, 90, 151, 160), [3]int{60, -20, -20}},
	{"long ranges without a common day", entry("a", 0, 1000, 5000, 9000), entry("a", 1001, 4000, 9001, 9999), [3]int{60, -20, -20}},
	{"364 days", entry("a", 0, 0, 1000, 1000), entry("a", 364, 364, 1364, 1364), [3]int{60, -20, -20}},
	{"365 days", entry("a", 0, 0, 1000, 1000), entry("a", 365, 365, 1365, 1365), [3]int{60, -21, -21}},
	{"729 days", entry("a", 0, 0, 1000, 1000), entry("a", 729, 729, 1729, 1729), [3]int{60, -21, -21}},
	{"730 days", entry("a", 0, 0, 1000, 1000), entry("a", 730, 800, 1730, 1800), [3]int{60, -22, -22}},
	{"79 times 365 days", entry("a", 0, 0, 40000, 40000), entry("a", 28835, 28900, 68835, 69000), [3]int{60, -99, -99}},
	{"a day less than 80 times 365", entry("a", 0, 0, 40000, 40000), entry("a", 29199, 29199, 69199, 69199), [3]int{60, -99, -99}},
	{"80 times 365 days", entry("a", 0, 0, 40000, 40000), entry("a", 29200, 29200, 69200, 69200), [3]int{60, -100, -100}},
	{"81 times 365 days", entry("a", 0, 0, 40000, 40000), entry("a", 29565, 29565, 69565, 69565), [3]int{60, -100, -100}},
	{"all days between", entry("a", 0, 0, 0, 0), entry("a", api.MaxDay, api.MaxDay, api.MaxDay, api.MaxDay), [3]int{60, -100, -100}},
	{"a range within the other", entry("a", 0, 300, 500, 800), entry("a", 100, 200, 600, 700), [3]int{60, 30, 30}},
}

// P4.3, P4.12: the score is the sum of its parts, and the same both ways.
func TestScore(t *testing.T) {
	for _, x := range scoreTests {
		want := x.want[0] + x.want[1] + x.want[2]
		if n, p, e := person.Score(x.a, x.b); n != want || p != x.want || e != api.OK {
			t.Error(x.what, n, p, e)
		}
		if n, p, e := person.Score(x.b, x.a); n != want || p != x.want || e != api.OK {
			t.Error(x.what, "the other way", n, p, e)
		}
	}
}

// P4.3: the errors of the first entry are told before those of the second one.
func TestErrorsOfScore(t *testing.T) {
	for _, x := range noteTests {
		for _, y := range noteTests {
			want := x.want
			if want == api.OK {
				want = y.want
			}
			n, p, e := person.Score(x.note, y.note)
			if e != want || e != api.OK && (n != 0 || p != [3]int{}) {
				t.Error(x.what, y.what, n, p, e)
			}
		}
	}
}
