package allot_test

import (
	"strconv"
	"strings"
	"testing"

	"mortsafe/allot"
	"mortsafe/api"
)

// opened are the seven lines of the opening times of the example's hall.
func opened() string { return strings.Repeat("open 480 960\n", 5) + strings.Repeat("open 0 0\n", 2) }

// head is the text of the example's hall.
func head() string { return "hall 1 1 1 30\n" + opened() }

// P7.8: what texts are.
func TestPrint(t *testing.T) {
	h := change(hall(), func(h *api.Hall) { h.Closed = []int{0, 9, 200000} })
	full := change(wide(), func(h *api.Hall) { h.Pause, h.Open[0] = 120, [2]int{} })
	one := func(h api.Hall, f api.Funeral) (api.Hall, []api.Funeral) { return h, []api.Funeral{f} }
	type row struct {
		h    api.Hall
		l    []api.Funeral
		want string
	}
	rows := []row{
		{hall(), nil, head()},
		{hall(), funerals(2), head() + "funeral f0 5 7 60 120 1 1\nfuneral f1 5 7 60 120 1 1\n"},
		{h, funerals(1), head() + "closed 0\nclosed 9\nclosed 200000\nfuneral f0 5 7 60 120 1 1\n"},
		{h, nil, head() + "closed 0\nclosed 9\nclosed 200000\n"},
		{full, nil, "hall 6 10 5 120\nopen 0 0\n" + strings.Repeat("open 0 1440\n", 6)},
	}
	a, l := one(full, api.Funeral{Name: "A-9", From: 199940, Until: 200000, Service: 600, Dig: 0, Crews: 10})
	rows = append(rows, row{a, l, "hall 6 10 5 120\nopen 0 0\n" + strings.Repeat("open 0 1440\n", 6) + "funeral A-9 199940 200000 600 0 10 0\n"})
	for _, c := range rows {
		text, e := allot.Print(c.h, c.l)
		check(t, "Print", text, e, c.want)
		h, l, n, e := allot.Parse(c.want)
		check(t, "Parse: the hall", h, e, c.h)
		check(t, "Parse: the funerals", l, e, c.l)
		check(t, "Parse: no line", n, e, 0)
	}
}

// wrongText is a text that is none, with the number of its first wrong line.
type wrongText struct {
	text string
	line int
}

func checkTexts(t *testing.T, l []wrongText) {
	t.Helper()
	for _, c := range l {
		h, f, n, e := allot.Parse(c.text)
		checkError(t, strconv.Quote(c.text), []any{h, f}, e, api.ErrSyntax)
		if n != c.line {
			t.Errorf("%q: line %d, not %d", c.text, n, c.line)
		}
	}
}

// P7.8: lines that are missing, that have no line feed, or that stand out of their order.
func TestWrongOrder(t *testing.T) {
	f := "funeral f 5 7 60 120 1 1\n"
	l := []wrongText{
		{"", 1}, {"\n", 1}, {" ", 1}, {"x", 1}, {"hall 1 1 1 30", 1}, {"hall 1 1 1 30\n", 2}, {"hall 1 1 1 30\n\n", 2},
		{opened(), 1}, {f, 1}, {"closed 1\n", 1}, {"\n" + head(), 1},
		{"hall 1 1 1 30\nhall 1 1 1 30\n" + opened(), 2}, {"hall 1 1 1 30\nclosed 9\n", 2}, {"hall 1 1 1 30\n" + f, 2},
		{head() + "open 0 0\n", 9}, {head() + "hall 1 1 1 30\n", 9}, {head() + "\n", 9}, {head() + " ", 9}, {head() + "x\n", 9},
		{head() + "closed 9", 9}, {head() + strings.TrimSuffix(f, "\n"), 9}, {head() + "closed 9\n" + f + "closed 10\n", 11},
		{head() + f + "open 0 0\n", 10}, {head() + f + head(), 10}, {head() + f + "\n", 10}, {head() + f + "closed 9\n" + f, 10},
		{head() + "closed 9\n" + strings.TrimSuffix(f, "\n"), 10}, {head() + "closed x\nclosed y\n", 9}, {head() + "closed 9\nclosed y\n", 10},
		{head() + f + "x", 10}, {strings.ReplaceAll(head(), "\n", "\r\n"), 1}, {strings.ReplaceAll(head(), "\n", " \n"), 1},
	}
	lines := strings.SplitAfter(head(), "\n")
	for i := range 8 {
		l = append(l,
			wrongText{strings.Join(lines[:i], ""), i + 1},
			wrongText{strings.TrimSuffix(strings.Join(lines[:i+1], ""), "\n"), i + 1},
			wrongText{strings.Join(lines[:i], "") + "x\n" + strings.Join(lines[i:], ""), i + 1},
		)
	}
	checkTexts(t, l)
}

// P7.8: lines that have none of the forms; numbers, and their digits.
func TestWrongLines(t *testing.T) {
	var l []wrongText
	for _, line := range []string{
		"hall", "hall ", "hall 1 1 1", "hall 1 1 1 30 1", "hall  1 1 1 30", "hall 1 1 1 30 ", " hall 1 1 1 30", "hall 1  1 1 30",
		"Hall 1 1 1 30", "hall 1 1 1 x", "hall 1 1 +1 30", "hall 1 01 1 30", "hall -0 1 1 30", "hall 1 1 1 30.0", "hall 1 1 1 12345678",
		"hall 1 1 1 -12345678", "hall 1 1 1 99999999999999999999", "hall 1 1 - 30", "hall 1 1 1_0 30", "hall 1 1 0x1 30", "hall\t1 1 1 30", "hall1 1 1 30",
		"hall 1 1 1 00", "hall 1 1 1 --1", "hall 1 1 1 ١",
	} {
		l = append(l, wrongText{line + "\n" + opened(), 1})
	}
	for _, line := range []string{"open", "open ", "open 1", "open 1 2 3", "open  1 2", "open 1 2 ", "open 1  2", "opened 1 2", "open a 2", "open 1 b", "open 1 02", "open 12345678 1", "open 1 12345678", ""} {
		l = append(l, wrongText{"hall 1 1 1 30\n" + line + "\n" + opened(), 2}, wrongText{"hall 1 1 1 30\n" + strings.Repeat("open 0 0\n", 6) + line + "\n", 8})
	}
	for _, line := range []string{
		"closed", "closed ", "closed  1", "closed 1 2", "closed 1 ", "closed x", "closed 01", "closed 12345678", "Closed 1",
		"funeral", "funeral ", "funeral f", "funeral f 5 7 60 120 1", "funeral f 5 7 60 120 1 ", "funeral f 5 7 60 120 1 2", "funeral f 5 7 60 120 1 -1",
		"funeral f 5 7 60 120 1 01", "funeral f 5 7 60 120 1 true", "funeral f 5 7 60 120 1 1 1", "funeral f  5 7 60 120 1 1", "funeral f 5 7 60 120 1 1 ",
		"funeral 5 7 60 120 1 1", "funeral   5 7 60 120 1 1", "funeral f 05 7 60 120 1 1", "funeral f 5 x 60 120 1 1", "funeral f 5 7 +60 120 1 1",
		"funeral f 5 7 60 -0 1 1", "funeral f 5 7 60 120 12345678 1", "funeral f 5 7 60 120 1 12345678", "Funeral f 5 7 60 120 1 1", "funeral f f 5 7 60 120 1 1",
		"funeral f -12345678 7 60 120 1 1", " funeral f 5 7 60 120 1 1",
	} {
		l = append(l, wrongText{head() + line + "\n", 9}, wrongText{head() + "closed 9\n" + line + "\n" + "x\n", 10})
	}
	checkTexts(t, l)
}

// P7.8: behind the forms the error of CheckFunerals decides; names may be any words.
func TestParseChecks(t *testing.T) {
	for _, c := range []struct {
		text string
		want api.Errno
	}{
		{"hall 0 1 1 30\n" + opened(), api.ErrRange},
		{"hall 1 1 1 -1234567\n" + opened(), api.ErrRange},
		{"hall 1234567 1 1 30\n" + opened(), api.ErrRange},
		{"hall 1 1 1 30\n" + strings.Repeat("open 5 5\n", 7), api.ErrForm},
		{"hall 1 1 1 30\n" + strings.Repeat("open -5 5\n", 7), api.ErrRange},
		{head() + strings.Repeat("closed 5\n", 61), api.ErrLarge},
		{head() + "closed -1\n", api.ErrRange},
		{head() + "closed 7\nclosed 5\n", api.ErrOrder},
		{head() + strings.Repeat("funeral f 5 7 60 120 1 1\n", 31), api.ErrLarge},
		{head() + "funeral  5 7 60 120 1 1\n", api.ErrName},
		{head() + "funeral - 5 7 60 120 1 1\n", api.ErrName},
		{head() + "funeral 77 5 7 60 120 1 1\n", api.ErrName},
		{head() + "funeral abcdefghijklm 5 7 60 120 1 1\n", api.ErrName},
		{head() + "funeral \xff\t\r 5 7 60 120 1 1\n", api.ErrName},
		{head() + strings.Repeat("funeral f 5 7 60 120 1 1\n", 2), api.ErrExists},
		{head() + "funeral f 5 7 0 120 1 1\n", api.ErrRange},
		{head() + "funeral f -1234567 1234567 60 120 1 1\n", api.ErrRange},
		{head() + "funeral f 7 5 60 120 1 1\n", api.ErrOrder},
		{head() + "funeral f 5 7 60 120 2 0\n", api.ErrStock},
		{"hall 1 1 0 30\n" + opened() + "funeral f 5 7 60 120 1 1\n", api.ErrStock},
	} {
		h, l, n, e := allot.Parse(c.text)
		checkError(t, strconv.Quote(c.text), []any{h, l, n}, e, c.want)
	}
}

// P7.8: the length of a text decides before what is in it.
func TestLargeText(t *testing.T) {
	for _, c := range []struct {
		text string
		n    int
		want api.Errno
	}{
		{strings.Repeat("x", 60000), 1, api.ErrSyntax},
		{strings.Repeat("x", 60001), 0, api.ErrLarge},
		{strings.Repeat("\n", 1<<20), 0, api.ErrLarge},
		{head() + strings.Repeat("closed 1\n", (60000-len(head()))/9), 0, api.ErrLarge},
		{head() + strings.Repeat("closed 1\n", (60000-len(head()))/9) + "x\n", 1 + 8 + (60000-len(head()))/9, api.ErrSyntax},
	} {
		h, l, n, e := allot.Parse(c.text)
		checkError(t, "Parse of much", []any{h, l}, e, c.want)
		if n != c.n {
			t.Error(len(c.text), n, c.n)
		}
	}
	all := change(wide(), func(h *api.Hall) { h.Closed = repeat(60, func(i int) int { return 200000 - 59 + i }) })
	text, e := allot.Print(all, funerals(30))
	h, l, n, wrong := allot.Parse(text)
	if e != api.OK || wrong != api.OK || n != 0 || !equal(h, all) || !equal(l, funerals(30)) {
		t.Error(text, h, l, n, e, wrong)
	}
}
