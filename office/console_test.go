package office_test

import (
	"strconv"
	"strings"
	"testing"

	"mortsafe/api"
	"mortsafe/office"
)

// do is a line of the console, and its answer.
type do struct{ line, want string }

func checkLines(t *testing.T, o *office.Office, lines ...do) {
	t.Helper()
	for _, x := range lines {
		if s := o.Do(x.line); s != x.want {
			t.Errorf("%q: %q, not %q", x.line, s, x.want)
		}
	}
}

// P10.9: entering, undoing, and the errors of both.
func TestEnterLines(t *testing.T) {
	checkLines(t, open(t, "main"),
		do{"journal", "0"}, do{"undo 5", "error 12"}, do{"enter 5 5 grave bury 5 a 0 x 0", "1"}, do{"journal", strconv.Itoa(len(journalOf("main 1 5 5 grave bury 5 a 0 x 0")))},
		do{"enter 5 5 ", "error 7"}, do{"enter 5 5  ", "error 7"}, do{"enter 5 5 person same 0 1 ", "error 7"}, do{"enter 5 5  person same 0 1", "error 7"}, do{"enter 5 5 person same 0 1\n", "error 7"},
		do{"enter 5 5 " + strings.Repeat("x", 201), "error 8"}, do{"enter 5 5 person withdraw 0", "error 15"}, do{"enter 5 6 grave exhume 5 x", "error 24"}, do{"enter 4 4 person same 0 1", "error 9"},
		do{"enter -1 5 person same 0 1", "error 2"}, do{"enter 5 -1 person same 0 1", "error 2"}, do{"enter 200001 5 x", "error 2"}, do{"enter 9999999 -9999999 x", "error 2"},
		do{"enter 6 6 withdraw main 2", "error 6"}, do{"enter 6 200000 person same 0 1", "2"}, do{"enter 6 6 withdraw main 2", "3"}, do{"enter 6 6 withdraw main 2", "error 28"},
		do{"undo 5", "error 9"}, do{"undo -1", "error 2"}, do{"undo 200001", "error 2"}, do{"undo 7", "1"}, do{"undo 7", "error 12"}, do{"undo -9999999", "error 12"},
		do{"journal", strconv.Itoa(len(journalOf("main 1 5 5 grave bury 5 a 0 x 0", "main 2 6 200000 person same 0 1", "main 3 6 6 withdraw main 2", "main 4 7 7 withdraw main 1")))},
	)
}

// P10.9: questions of all kinds, and their errors.
func TestAskLines(t *testing.T) {
	o := opened(t, "main", story())
	for _, x := range []do{{"300 300 rule fee 5 300 300", "4"}, {"300 300 rule fee 5 300 300", "5"}, {"300 7 money 7 3 a b", "6"}, {"300 300 person same 0 2", "7"}, {"300 9 right grant 9 a1 - 1 0 ann 1 1", "8"}} {
		checkLines(t, o, do{"enter " + x.line, x.want})
	}
	checkLines(t, o,
		do{"ask 300 300 remain y", "at a 1 since 200"}, do{"ask 299 300 remain y", "unknown"}, do{"ask 204 200 site a", "0 x, 1 z"}, do{"ask 300 199 site a", "0 x"}, do{"ask 300 300 site b", "unknown"},
		do{"ask 300 300 holders a1", "ann 1/1"}, do{"ask 300 8 holders a1", "none"}, do{"ask 300 300 value fee", "5"}, do{"ask 299 300 value fee", "none"}, do{"ask 300 7 balance a", "3"}, do{"ask 300 6 balance a", "0"},
		do{"ask 300 300 class 0", "0, 2"}, do{"ask 300 299 class 0", "0"}, do{"ask 300 300 class 1", "1"}, do{"ask 300 300 class 3", "error 2"}, do{"ask 300 300 class -1", "error 2"}, do{"ask 300 300 class 9999999", "error 2"},
		do{"ask -1 300 site a", "error 2"}, do{"ask 300 200001 site a", "error 2"}, do{"ask -9999999 9999999 class 0", "error 2"}, do{"ask 5 5 site ", "error 4"}, do{"ask 5 5 remain 1", "error 4"},
		do{"ask 5 5 value a\n", "error 4"}, do{"ask 5 5 balance abcdefghijklm", "error 4"}, do{"ask 5 5 holders -", "error 4"}, do{"ask -1 5 site ", "error 2"},
		do{"why 300 300 remain y", "main 2"}, do{"why 300 300 site a", "main 1, main 2"}, do{"why 299 300 site a", "lodge 1, main 1"}, do{"why 299 300 remain y", "nothing"}, do{"why 300 300 value fee", "main 4"},
		do{"why 300 300 balance a", "main 6"}, do{"why 300 300 class 2", "main 7"}, do{"why 300 300 class 1", "nothing"}, do{"why 300 300 holders a1", "main 8"}, do{"why 300 300 class 3", "error 2"},
		do{"why 300 300 site ", "error 4"}, do{"why -1 300 site a", "error 2"}, do{"why 300 200001 class 0", "error 2"}, do{"why 300 300 holders 1", "error 4"},
		do{"refused 204 300", "0"}, do{"refused 299 300", "1"}, do{"refused 299 199", "0"}, do{"refused 300 300", "0"}, do{"refused -1 5", "error 2"}, do{"refused 5 200001", "error 2"},
	)
	many := opened(t, "main", scatterings(61))
	checkLines(t, many, do{"why 5 5 site a", "error 8"}, do{"why 5 4 site s", "nothing"}, do{"ask 5 5 site a", "nothing"})
}

// P10.9: all other lines.
func TestOtherLines(t *testing.T) {
	o := opened(t, "main", story())
	l := []string{
		"", " ", "frob", "?", "journal ", " journal", "journal 5", "Journal", "journal\n", "enter", "enter ", "enter 5", "enter 5 5", "enter 5 ", "enter  5 5 person same 0 1", "enter 5  5 person same 0 1",
		"entering 5 5 person same 0 1", "undo", "undo ", "undo  5", "undo 5 ", "undo 5 5", "undo x", "ask", "ask ", "ask 5 5", "ask 5 5 site", "ask 5 5 site a b", "ask 5 5 site a ", "ask 5 5  site a",
		"ask 5 5 site  a", "ask  5 5 site a", "ask 5 site a", "ask 5 5 sites a", "ask 5 5 Site a", "ask 5 5  a", "ask 5 5 1 a", "ask 5 5 class", "ask 5 5 class ", "ask 5 5 class x", "ask 5 5 class 0 1", "ask 5 5 class 0x1",
		"ask 5 5 class 10000000", "why", "why 5 5", "why 5 5 site", "why 5 5 site a b", "why 5 5 site a ", "why 5 5 plot a", "why 5 5 class x", "why 5 5 class ", "why 5 5 class 01", "why 5\t5 site a", "refused", "refused 5", "refused 5 ",
		"refused 5 5 ", "refused 5 5 5", "refused  5 5", "refused 5  5", "refused 5 5\n", "site a", "remain x", "withdraw lodge 1", "grave bury 300 a 2 q 1",
	}
	for _, n := range []string{"", "x", "-", "+5", "05", "00", "-0", "-05", "--5", "5-", "5.0", "0x5", "10000000", "-10000000", "00000005", "99999999999999999999", "٥", "5,"} {
		for _, line := range []string{
			"enter N 300 person same 0 1", "enter 300 N person same 0 1", "undo N", "ask N 5 site a", "ask 5 N site a", "ask 5 5 class N", "why N 5 site a", "why 5 N site a", "why 5 5 class N", "refused N 5", "refused 5 N",
		} {
			l = append(l, strings.Replace(line, "N", n, 1))
		}
	}
	for _, line := range l {
		checkLines(t, o, do{line, "?"})
	}
	check(t, "the entries", o.Entries(), api.OK, story())
}
