package office_test

import (
	"strconv"
	"strings"
	"testing"

	"mortsafe/api"
	"mortsafe/office"
)

// rightEntries are right by themselves: of each kind, and at the ends of ranges.
func rightEntries() []api.Entry {
	l := []api.Entry{
		entry("main", 1, 0, 0, "grave bury 0 a 0 x 0"), entry("main", 300, 200000, 200000, "grave exhume 200000 x"),
		entry("main", 1, 0, 200000, "grave lower 200000 1 x order"), entry("main", 1, 200000, 0, "grave gather 0 x"), entry("main", 1, 9, 5, "grave rebury 5 nowhere 11 x 2"),
		entry("main", 1, 0, 200000, "person same 0 1"), entry("main", 1, 5, 7, "person different -1 999999999"), entry("main", 1, 7, 5, "person same 4 4"),
		entry("main", 1, 5, 100, "right grant 100 a1 - 1 0 ann 1 1"), entry("main", 1, 5, 200, "right death 200 - ann 0 0"), entry("main", 1, 5, 0, "right child 0 - ann 0 0 bob 0 0"),
		entry("main", 1, 9, 3, "money 3 500 fees bank"), entry("main", 1, 9, 3, "money 3 -7  "), entry("main", 1, 9, 3, "money 3 0 # #"),
		entry("main", 1, 5, 10, "rule fee 100 10 5"), entry("main", 1, 28, 30, "rule fee repeal 30 28"), entry("main", 1, 200000, 0, "rule fee -1000000000 0 200000"),
		entry("main", 1, 5, 5, "withdraw main 1"), entry("main", 1, 200000, 200000, "withdraw abcdefghijkl 300"),
		entry("main", 1, 9, 3, "money 3 5 a "+strings.Repeat("b", 188)), entry("main", 1, 9, 3, "money 3 5 é\x00\xff\r\t b"),
	}
	for _, name := range rightNames {
		l = append(l, entry(name, 1, 5, 5, "person same 0 1"), entry("a", 1, 5, 5, "withdraw "+name+" 1"))
	}
	return l
}

// P10.1: right entries of all kinds.
func TestRightEntries(t *testing.T) {
	for _, e := range rightEntries() {
		if wrong := office.CheckEntry(e); wrong != api.OK {
			t.Error(e, wrong)
		}
	}
	if e := rightEntries()[19]; len(e.Text) != 200 {
		t.Error("the longest text", len(e.Text))
	}
}

// wrongTexts are texts that are wrong in an entry of the office main, entered on day 5, that holds
// from day 7, or from day 5.
func wrongTexts() map[string]api.Errno {
	l := map[string]api.Errno{
		strings.Repeat("x", 201): api.ErrLarge, "money 7 5 a " + strings.Repeat("b", 189): api.ErrLarge, strings.Repeat("\n", 201): api.ErrLarge,
		"money 7 5 a b\n": api.ErrSyntax, "money 7 5 a\n b": api.ErrSyntax, "\n": api.ErrSyntax, "person same 0 1\n": api.ErrSyntax, "rule fee\n 1 7 5": api.ErrSyntax,
		"grave bury 7 a 0 x": api.ErrSyntax, "grave bury 7 a 12 x 0": api.ErrSyntax, "grave bury 07 a 0 x 0": api.ErrSyntax, "grave exhume 7 x ": api.ErrSyntax,
		"person same 0": api.ErrSyntax, "person same 0 1 2": api.ErrSyntax, "person same 0 01": api.ErrSyntax, "person withdraw 0 1": api.ErrSyntax, "person withdraw -0": api.ErrSyntax,
		"right grant 7 a1 - 1 0 ann 1": api.ErrSyntax, "right grant 7 a1 - 1 0 ann 1 01": api.ErrSyntax, "right 8 7 - ann 0 0": api.ErrSyntax,
		"right grant 200001 a1 - 1 0 ann 1 1": api.ErrRange, "right grant 7 a1 - 1 0 ann 1 2": api.ErrForm, "right grant 7 1 - 1 0 ann 1 1": api.ErrName,
		"right will 7 - ann 0 0" + strings.Repeat(" b 1 9", 9): api.ErrLarge,
		"money 7 5 a": api.ErrSyntax, "money 7 5 a b c": api.ErrSyntax, "money 7 05 a b": api.ErrSyntax, "money 7 +5 a b": api.ErrSyntax,
		"rule fee 1 7": api.ErrSyntax, "rule fee 1 7 05": api.ErrSyntax, "rule 1fee 1 7 5": api.ErrName, "rule fee 1000000001 7 5": api.ErrRange, "rule fee 1 7 200001": api.ErrRange,
		"person withdraw 0": api.ErrKind, "person withdraw 999999999": api.ErrKind, "person withdraw -1": api.ErrKind,
		"grave exhume 6 x": api.ErrDate, "grave gather 8 x": api.ErrDate, "right death 6 - ann 0 0": api.ErrDate, "money 6 5 a b": api.ErrDate, "money -7 5 a b": api.ErrDate,
		"rule fee 1 6 5": api.ErrDate, "rule fee 1 7 6": api.ErrDate, "rule fee repeal 8 7": api.ErrDate,
	}
	for _, word := range []string{"grave", "person", "right", "money", "rule", "withdraw", "", "frob", "Grave", "graves", "grav", "entry"} {
		for _, text := range []string{word, word + " ", " " + word, word + "  ", word + "\tx", word + " \x00", word + " grave exhume 7 x", word + "  exhume 7 x", word + "exhume 7 x"} {
			l[text] = api.ErrSyntax
		}
	}
	for _, word := range []string{"frob", "Grave", "", "rules", "a"} {
		for _, rest := range []string{" exhume 7 x", " same 0 1", " grant 7 a1 - 1 0 ann 1 1", " 7 5 a b", " fee 1 7 5", " main 1"} {
			l[word+rest] = api.ErrSyntax
		}
	}
	return l
}

// P10.1: the errors of texts. That of the form of the text comes before those of a kind and of days.
func TestWrongTexts(t *testing.T) {
	for text, want := range wrongTexts() {
		if e := office.CheckEntry(entry("main", 1, 5, 7, text)); e != want {
			t.Errorf("%q: %d, not %d", text, e, want)
		}
	}
	for _, text := range []string{
		"withdraw main", "withdraw main 0", "withdraw main 301", "withdraw main -1", "withdraw main 01", "withdraw main +1", "withdraw main 1 ", "withdraw main 1 2", "withdraw main  1",
		"withdraw  1", "withdraw 1 1", "withdraw main x", "withdraw main 99999999999999999999", "withdraw abcdefghijklm 1", "withdraw a_b 1", "withdraw 1", "withdraw  main 1", "withdraw 1 main",
	} {
		for _, day := range []int{5, 7} {
			if e := office.CheckEntry(entry("main", 1, 5, day, text)); e != api.ErrSyntax {
				t.Errorf("%q: %d", text, e)
			}
		}
	}
	for entered, want := range map[int]api.Errno{6: api.ErrDate, 7: api.OK, 8: api.ErrDate} {
		if e := office.CheckEntry(entry("main", 1, entered, 7, "withdraw main 1")); e != want {
			t.Error("a withdrawal of another day", entered, e)
		}
	}
}

// P10.1: the days of the kinds of entries.
func TestDaysOfEntries(t *testing.T) {
	for _, text := range []string{"grave exhume 7 x", "right death 7 - ann 0 0", "money 7 5 a b", "rule fee 1 7 5", "rule fee repeal 7 5"} {
		for day, want := range map[int]api.Errno{6: api.ErrDate, 7: api.OK, 8: api.ErrDate} {
			if e := office.CheckEntry(entry("main", 1, 5, day, text)); e != want {
				t.Error(text, day, e)
			}
		}
	}
	for _, text := range []string{"grave exhume 7 x", "right death 7 - ann 0 0", "money 7 5 a b", "person same 0 1"} {
		for _, entered := range []int{0, 7, 200000} {
			if e := office.CheckEntry(entry("main", 1, entered, 7, text)); e != api.OK {
				t.Error(text, entered, e)
			}
		}
	}
	for entered, want := range map[int]api.Errno{4: api.ErrDate, 5: api.OK, 6: api.ErrDate} {
		if e := office.CheckEntry(entry("main", 1, entered, 7, "rule fee 1 7 5")); e != want {
			t.Error("a provision that was entered on another day", entered, e)
		}
	}
}

// P10.1: the errors of an entry, in their order.
func TestWrongEntries(t *testing.T) {
	long, frob, late := strings.Repeat("\n", 201), "frob", "grave exhume 6 x"
	for _, text := range []string{long, frob, late, "grave exhume 7 x"} {
		for _, name := range wrongNames {
			for _, e := range []api.Entry{entry(name, 1, 5, 7, text), entry(name, 0, -1, -1, text)} {
				if wrong := office.CheckEntry(e); wrong != api.ErrName {
					t.Errorf("%q: %d", name, wrong)
				}
			}
		}
		for _, n := range with(extremes, 0, 301) {
			if e := office.CheckEntry(entry("main", n, 5, 7, text)); e != api.ErrRange {
				t.Error("number", n, e)
			}
		}
		for _, n := range noDays {
			for _, e := range []api.Entry{entry("main", 1, n, 7, text), entry("main", 1, 5, n, text), entry("main", 1, n, n, text)} {
				if wrong := office.CheckEntry(e); wrong != api.ErrRange {
					t.Error(e, wrong)
				}
			}
		}
	}
}

// wrongSingles are entries of the office a with the number 2 that are wrong by themselves.
func wrongSingles() []wrong[api.Entry] {
	return []wrong[api.Entry]{
		{entry("", 2, 5, 5, "person same 0 1"), api.ErrName}, {entry("a", 301, 5, 5, "person same 0 1"), api.ErrRange}, {entry("a", 2, -1, 5, "person same 0 1"), api.ErrRange},
		{entry("a", 2, 5, 5, strings.Repeat("x", 201)), api.ErrLarge}, {entry("a", 2, 5, 5, "person same 0"), api.ErrSyntax}, {entry("a", 2, 5, 5, "frob"), api.ErrSyntax},
		{entry("a", 2, 5, 5, "right grant 5 1 - 1 0 ann 1 1"), api.ErrName}, {entry("a", 2, 5, 5, "right grant 5 a1 - 1 0 ann 1 2"), api.ErrForm},
		{entry("a", 2, 5, 5, "person withdraw 0"), api.ErrKind}, {entry("a", 2, 5, 5, "grave gather 4 x"), api.ErrDate}, {entry("a", 2, 5, 6, "withdraw a 1"), api.ErrDate},
		{entry("a", 2, 4, 4, "rule fee 1 4 5"), api.ErrDate}, {entry("a", 0, 5, 5, "person same 0 1"), api.ErrRange},
	}
}

// wrong is something, and its error.
type wrong[T any] struct {
	x    T
	want api.Errno
}

// P10.1: the errors of entries together, which all functions with entries tell before those of the
// other arguments: the first wrong one by itself, then keys that are there twice, then gaps, then
// entries that fall back; wherever they stand.
func TestWrongLists(t *testing.T) {
	all := allOfEntries()
	same := "person same 0 1"
	a1, a2, a3, b1 := entry("a", 1, 5, 5, same), entry("a", 2, 5, 5, same), entry("a", 3, 4, 5, same), entry("b", 1, 0, 5, same)
	b3 := entry("b", 3, 0, 5, same)
	for _, c := range wrongSingles() {
		for _, l := range [][]api.Entry{
			{c.x}, {a1, c.x}, {c.x, a1}, {a1, b1, c.x}, {a1, c.x, entry("", 0, -1, -1, "frob")}, {a1, a1, b3, c.x}, {b3, c.x, a3}, {a1, a2, a3, c.x, b1},
			with(many("b", 298), a1, c.x),
		} {
			checkAll(t, "a wrong entry", all, l, c.want)
		}
		checkAll(t, "too many entries, one of which is wrong", all, with([]api.Entry{c.x}, many("b", 300)...), api.ErrLarge)
	}
	checkAll(t, "too many entries", all, many("c", 301)[:301], api.ErrLarge)
	checkAll(t, "too many entries of two offices", all, with(many("c", 200), many("b", 101)...), api.ErrLarge)
	for _, l := range [][]api.Entry{{a1, a1}, {a1, entry("a", 1, 9, 9, "withdraw a 1")}, {a1, a2, a3, a2}, {b3, a1, b1, a1}, {a3, a3}, {a1, a2, a3, b1, b1}} {
		checkAll(t, "entries with the same key", all, l, api.ErrExists)
	}
	for _, l := range [][]api.Entry{{a2}, {b3}, {a1, a3}, {a3, a1}, {a1, a2, a3, b3}, {a1, a2, b1, b3}, {a2, b1}, {entry("b", 2, 0, 5, same), a1}, {entry("A", 1, 5, 5, same), a2}} {
		checkAll(t, "entries with a gap", all, l, api.ErrGap)
	}
	for _, l := range [][]api.Entry{{a1, a2, a3}, {a3, a1, a2}, {a2, b1, a3, a1}, {a1, entry("a", 2, 0, 0, "withdraw a 1"), b1}} {
		checkAll(t, "entries that fall back", all, l, api.ErrOrder)
	}
}

// P10.1: entries that are right together, in any order.
func TestRightLists(t *testing.T) {
	lodge := numberedFrom("lodge", 5, "person same 0 1", "withdraw main 300", "withdraw nobody 1", "withdraw lodge 2", "person same 0 1")
	for i, l := range [][]api.Entry{
		nil, {}, story(), {story()[3], story()[1], story()[0], story()[2]}, many("a", 299), many("a", 300), with(many("b", 150), many("a", 150)...), lodge, with(many("main", 290), lodge...),
		{entry("a", 1, 9, 5, "person same 0 1"), entry("b", 1, 0, 5, "person same 0 1")}, {entry("a", 2, 200000, 0, "person same 0 1"), entry("a", 1, 0, 200000, "person same 0 1")},
		{entry("a", 1, 9, 5, "person same 0 1"), entry("A", 1, 5, 5, "person same 0 1"), entry("a-", 1, 5, 5, "person same 0 1"), entry("a", 2, 9, 5, "person same 0 1")},
	} {
		if e := office.CheckEntries(l); e != api.OK {
			t.Error(i, e)
		}
	}
}

// P10.2: texts of entries, right or not.
func TestFormatEntry(t *testing.T) {
	for text, e := range map[string]api.Entry{
		"main 1 205 200 grave bury 200 a 1 y 0": entry("main", 1, 205, 200, "grave bury 200 a 1 y 0"),
		" 0 0 0 ":                               {},
		"a b -1 301 200001 \n x":                entry("a b", -1, 301, 200001, "\n x"),
		"9223372036854775807 -9223372036854775808 0 9223372036854775807 1 2": entry("9223372036854775807", extremes[0], 0, extremes[4], "1 2"),
	} {
		if got := office.FormatEntry(e); got != text {
			t.Errorf("%q, not %q", got, text)
		}
	}
}

// P10.2: ParseEntry undoes FormatEntry of right entries, and tells the errors of others.
func TestParseEntry(t *testing.T) {
	for _, e := range rightEntries() {
		got, wrong := office.ParseEntry(office.FormatEntry(e))
		check(t, "ParseEntry of "+e.Text, got, wrong, e)
	}
	for text, want := range wrongTexts() {
		got, e := office.ParseEntry(office.FormatEntry(entry("main", 1, 5, 7, text)))
		checkError(t, "ParseEntry of "+strconv.Quote(text), []any{got}, e, want)
	}
	for _, c := range wrongSingles() {
		got, e := office.ParseEntry(office.FormatEntry(c.x))
		checkError(t, "ParseEntry of a wrong entry", []any{got}, e, c.want)
	}
	for text, want := range map[string]api.Errno{
		" 1 5 7 grave exhume 7 x": api.ErrName, "1 1 5 7 ": api.ErrName, "a\nb 1 5 7 ": api.ErrName, "main -1 5 7 ": api.ErrRange, "main 9999999 5 7 ": api.ErrRange,
		"main 1 -9999999 7 grave exhume 7 x": api.ErrRange, "main 1 5 200001 grave exhume 7 x": api.ErrRange, "main 1 5 7 ": api.ErrSyntax,
	} {
		got, e := office.ParseEntry(text)
		checkError(t, "ParseEntry of "+strconv.Quote(text), []any{got}, e, want)
	}
}

// P10.2: texts that are none of entries.
func TestWrongEntryTexts(t *testing.T) {
	rest := "grave exhume 7 x"
	l := []string{"", " ", "   ", "main", "main 1", "main 1 5", "main 1 5 7", "1 1 5 7", "main 1 5 " + rest, "main 1 " + rest, "main  1 5 7 " + rest, " main 1 5 7 " + rest, "main\t1\t5\t7\t" + rest}
	for _, n := range []string{"", "x", "-", "+1", "01", "00", "-0", "-01", "--1", "1-", "1.0", "0x1", "1e3", "10000000", "-10000000", "00000001", "99999999999999999999", "١", "1,", "1\n", "\x001"} {
		for _, name := range []string{"main", "1"} {
			l = append(l, name+" "+n+" 5 7 "+rest, name+" 1 "+n+" 7 "+rest, name+" 1 5 "+n+" "+rest)
		}
	}
	for _, text := range l {
		got, e := office.ParseEntry(text)
		checkError(t, "ParseEntry of "+strconv.Quote(text), []any{got}, e, api.ErrSyntax)
	}
}
