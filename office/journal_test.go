package office_test

import (
	"strconv"
	"strings"
	"testing"

	"mortsafe/api"
	"mortsafe/office"
)

// storyJournal is the journal of the chapter's examples.
func storyJournal() string {
	return journalOf("lodge 1 150 150 grave bury 150 a 1 z 0", "main 1 100 100 grave bury 100 a 0 x 0", "main 2 205 200 grave bury 200 a 1 y 0", "main 3 300 300 withdraw lodge 1")
}

// journalOf returns lines with the right numbers.
func journalOf(lines ...string) string {
	text := ""
	for i, line := range lines {
		text += line + " #" + strconv.Itoa(modelNumber(line, i+1)) + "\n"
	}
	return text
}

// The sixth example: the numbers of lines.
func TestNumbersOfLines(t *testing.T) {
	for line, want := range map[string]int{"": 1, "a": 128, "ab": 4066} {
		if got := modelNumber(line, 1); got != want {
			t.Error(line, got)
		}
	}
}

// P10.7: journals are written in canonical order.
func TestJournal(t *testing.T) {
	for _, l := range [][]api.Entry{story(), {story()[3], story()[1], story()[0], story()[2]}} {
		s, e := office.Journal(l)
		check(t, "Journal", s, e, storyJournal())
	}
	s, e := office.Journal(nil)
	check(t, "Journal of nothing", s, e, "")
	s, e = office.Journal(story()[1:2])
	check(t, "Journal of an entry", s, e, "main 1 100 100 grave bury 100 a 0 x 0 #"+strconv.Itoa(modelNumber("main 1 100 100 grave bury 100 a 0 x 0", 1))+"\n")
	s, e = office.Journal([]api.Entry{entry("a", 1, 9, 3, "money 3 5 é\x00\xff\r\t #b")})
	check(t, "Journal of any bytes", s, e, journalOf("a 1 9 3 money 3 5 é\x00\xff\r\t #b"))
	if !strings.HasSuffix(s, " #4875\n") {
		t.Errorf("the number of bytes above 127: %q", s)
	}
}

// P10.7: Recover returns the entries of the longest beginning that is a journal.
func TestRecover(t *testing.T) {
	whole := storyJournal()
	lines := strings.SplitAfter(whole, "\n")
	all := strings.Split(strings.TrimSuffix(whole, "\n"), "\n")
	first := len(lines[0]) + len(lines[1])
	for text, want := range map[string][2]int{
		"": {0, 0}, "\n": {0, 0}, " ": {0, 0}, "\n" + whole: {0, 0}, " " + whole: {0, 0}, whole: {4, len(whole)}, whole[:len(whole)-1]: {3, len(whole) - len(lines[3])}, whole + "\n": {4, len(whole)},
		whole + "x": {4, len(whole)}, whole + " ": {4, len(whole)}, whole + whole: {4, len(whole)}, lines[0] + lines[1] + "\n" + lines[2]: {2, first}, lines[0] + lines[1] + lines[3] + lines[2]: {2, first},
		lines[0] + lines[1] + all[2] + "0\n" + lines[3]: {2, first}, lines[0] + lines[1] + all[2] + " \n" + lines[3]: {2, first}, lines[0] + lines[1] + " " + lines[2]: {2, first},
		lines[0] + lines[1] + strings.Replace(lines[2], "#", "#0", 1): {2, first}, lines[0] + lines[1] + strings.Replace(lines[2], " #", "#", 1): {2, first},
		lines[0] + lines[1] + strings.Replace(lines[2], " #", "  #", 1): {2, first}, lines[0] + lines[1] + strings.Replace(lines[2], " #", " ", 1): {2, first},
		lines[0] + lines[1] + strings.Replace(lines[2], "#", "#+", 1): {2, first}, lines[0] + lines[1] + strings.Replace(lines[2], "\n", "\r\n", 1): {2, first},
		lines[1] + lines[2]: {0, 0}, lines[0] + lines[0]: {1, len(lines[0])}, strings.ReplaceAll(whole, "\n", "\r"): {0, 0},
	} {
		l, n := office.Recover(text)
		check(t, "Recover", l, api.OK, story()[:want[0]])
		if n != want[1] {
			t.Errorf("%q: %d, not %d", text, n, want[1])
		}
	}
}

// P10.7: lines with right numbers are no journal if their entries are wrong, or wrong together, or
// not in canonical order.
func TestRecoverOfWrongEntries(t *testing.T) {
	same := " 5 5 person same 0 1"
	for _, lines := range [][]string{
		{"b 2" + same}, {"b 1 5 5 person same 0"}, {"b 1 5 5 person withdraw 0"}, {"b 1 5 6 withdraw a 1"}, {"b 301" + same}, {"1 1" + same}, {" 1" + same}, {"b 01" + same}, {"b 1 5 5 "}, {"b 1 5"}, {""},
		{"a 1" + same, "b 1" + same}, {"b 1" + same, "b 1" + same}, {"b 1" + same, "b 3" + same}, {"b 1" + same, "b 2 4 5 person same 0 1"}, {"b 1" + same, "a 1" + same}, {"b 1" + same, "c 2" + same},
		{"b 1" + same, "b 2" + same, "b 1" + same}, {"b 1" + same, "c 1" + same, "b 2" + same}, {"b 1" + same, "B 1" + same}, {"b 1" + same, "b 2" + same, "c 1" + same, "c 1" + same},
	} {
		wrong := lines[len(lines)-1]
		if lines[0] == "a 1"+same {
			wrong = "a 2 4 4 person same 0 1"
			lines = with(lines[:1], wrong)
		}
		right := journalOf(lines[:len(lines)-1]...)
		l, n := office.Recover(journalOf(lines...))
		if len(l) != len(lines)-1 || n != len(right) {
			t.Errorf("%q: %v, %d", lines, l, n)
		}
		l, n = office.Recover(journalOf(with(lines, "d 1"+same)...))
		if len(l) != len(lines)-1 || n != len(right) {
			t.Errorf("behind %q: %v, %d", wrong, l, n)
		}
	}
}

// P10.7: a journal has at most 300 entries.
func TestLongJournals(t *testing.T) {
	lines := repeat(301, func(i int) string {
		return office.FormatEntry(entry("a"+strconv.Itoa(i/200), i%200+1, 5, 5, "person same 0 1"))
	})
	for _, n := range []int{299, 300, 301} {
		l, read := office.Recover(journalOf(lines[:n]...))
		if want := min(n, 300); len(l) != want || read != len(journalOf(lines[:want]...)) {
			t.Error(n, len(l), read)
		}
	}
	l, e := office.Journal(many("a", 300))
	check(t, "Journal", strings.Count(l, "\n"), e, 300)
}
