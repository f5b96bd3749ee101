package person_test

import (
	"math"
	"slices"
	"strconv"
	"strings"
	"testing"

	"mortsafe/api"
	"mortsafe/person"
)

// decisionTexts are decisions and their texts.
var decisionTexts = []struct {
	d    api.Decision
	text string
}{
	{same(0, 1), "same 0 1"},
	{same(1, 2), "same 1 2"},
	{same(7, 7), "same 7 7"},
	{different(0, 3), "different 0 3"},
	{different(59, 10), "different 59 10"},
	{withdraw(0), "withdraw 0"},
	{withdraw(119), "withdraw 119"},
	{same(-1, -20), "same -1 -20"},
	{different(-5, 5), "different -5 5"},
	{withdraw(-7), "withdraw -7"},
	{same(999999999, -999999999), "same 999999999 -999999999"},
	{different(-999999999, 999999999), "different -999999999 999999999"},
	{withdraw(999999999), "withdraw 999999999"},
	{withdraw(-999999999), "withdraw -999999999"},
	{same(100000000, 123456789), "same 100000000 123456789"},
}

// P4.8: decisions are written with their numbers as they are, and read back.
func TestTextsOfDecisions(t *testing.T) {
	for _, x := range decisionTexts {
		if s := person.FormatDecision(x.d); s != x.text {
			t.Error(x.d, s)
		}
		if d, e := person.ParseDecision(x.text); d != x.d || e != api.OK {
			t.Error(x.text, d, e)
		}
	}
}

// P4.8: numbers of any size are written, also a B of a withdrawal is not; other kinds
// have no text.
func TestFormatDecision(t *testing.T) {
	tests := []struct {
		d    api.Decision
		want string
	}{
		{same(1000000000, -1000000000), "same 1000000000 -1000000000"},
		{different(math.MaxInt, math.MinInt), "different " + strconv.Itoa(math.MaxInt) + " " + strconv.Itoa(math.MinInt)},
		{withdraw(math.MinInt), "withdraw " + strconv.Itoa(math.MinInt)},
		{api.Decision{Kind: api.DecideWithdraw, A: 5, B: 6}, "withdraw 5"},
		{api.Decision{Kind: 3, A: 5, B: 6}, ""},
		{api.Decision{Kind: -1, A: 5, B: 6}, ""},
		{api.Decision{Kind: math.MaxInt}, ""},
		{api.Decision{Kind: math.MinInt}, ""},
	}
	for _, x := range tests {
		if s := person.FormatDecision(x.d); s != x.want {
			t.Error(x.d, s)
		}
	}
}

// P4.8: all other texts are ErrSyntax.
func TestWrongTextsOfDecisions(t *testing.T) {
	texts := []string{
		"", " ", "same", "same ", "same 1", "same 1 ", "same  1", "different", "different 1", "withdraw", "withdraw ",
		"same 1  2", "same 1 2 ", " same 1 2", "same 1 2 3", "same 1 2\n", "same\t1 2", "same 1,2", "same1 2", "same 12",
		"withdraw 1 ", "withdraw 1 0", "withdraw 1 2", "withdraw  1", " withdraw 1", "withdraw 1\n", "withdraw1",
		"Same 1 2", "SAME 1 2", "sam 1 2", "sames 1 2", "merge 1 2", "0 1 2", "1 2", "-1 1 2", "different1 2", "differ 1 2",
		"same 01 2", "same 1 02", "same 00 1", "same +1 2", "same 1 +2", "same -0 1", "same 1 -0", "same -01 2", "same 1 --2", "same - 1", "same 1 -",
		"same 1. 2", "same 0x1 2", "same 1_0 2", "same a b", "same 1 b", "same a 2", "same ١ 2", "withdraw +1", "withdraw 01", "withdraw -0", "withdraw a", "withdraw -",
		"same 1000000000 2", "same 1 1000000000", "same -1000000000 2", "same 1 -1000000000", "different 1000000000 2", "withdraw 1000000000", "withdraw -1000000000",
		"same 0999999999 1", "same 99999999999999999999 1", "same 1 99999999999999999999", "withdraw 99999999999999999999", "withdraw -99999999999999999999",
		"withdraw " + strconv.Itoa(math.MaxInt), "withdraw " + strconv.Itoa(math.MinInt), "same 0 " + strconv.Itoa(math.MaxInt), "same " + strconv.Itoa(math.MinInt) + " 0",
		"same 1 " + strings.Repeat("9", 1000), "same " + strings.Repeat("0", 1000) + " 1",
	}
	for _, s := range texts {
		if d, e := person.ParseDecision(s); d != (api.Decision{}) || e != api.ErrSyntax {
			t.Errorf("%q: %v %d", s, d, e)
		}
	}
}

// P4.8: a text with one byte changed is that of the decision that it then says, or none.
func TestChangedTextsOfDecisions(t *testing.T) {
	for _, x := range decisionTexts {
		for i := range x.text {
			for c := range 256 {
				s := x.text[:i] + string([]byte{byte(c)}) + x.text[i+1:]
				d, e := person.ParseDecision(s)
				if e == api.OK && person.FormatDecision(d) != s || e != api.OK && (e != api.ErrSyntax || d != api.Decision{}) {
					t.Errorf("%q: %v %d", s, d, e)
				}
				if c >= '1' && c <= '9' && x.text[i] >= '1' && x.text[i] <= '9' && e != api.OK {
					t.Errorf("%q: %v %d", s, d, e)
				}
			}
		}
	}
}

const twoText = "M[ae]ier 0 100 500 600\nMe[iy]er 50 200 0 550\n"

// P4.10: entries are written line by line, and read back.
func TestTextsOfEntries(t *testing.T) {
	tests := []struct {
		l    []api.Note
		text string
	}{
		{nil, ""},
		{notes(entry("a", 0, 1, 2, 3)), "a 0 1 2 3\n"},
		{three()[:2], twoText},
		{three(), twoText + "Maier 0 1 2 3\n"},
		{notes(entry("?", 0, api.MaxDay, 0, api.MaxDay)), "? 0 200000 0 200000\n"},
		{notes(entry("-[-A]", 10, 20, 30, 40), entry("-[-A]", 10, 20, 30, 40)), "-[-A] 10 20 30 40\n-[-A] 10 20 30 40\n"},
		{repeat(60, always(named("b"))), strings.Repeat("b 0 0 0 0\n", 60)},
	}
	for _, x := range tests {
		if s, e := person.Print(x.l); s != x.text || e != api.OK {
			t.Errorf("%q %d", s, e)
		}
		if l, n, e := person.Parse(x.text); !slices.Equal(l, x.l) || n != 0 || e != api.OK {
			t.Error(x.text, l, n, e)
		}
	}
}

// P4.10: Print returns the errors of entries.
func TestErrorsOfPrint(t *testing.T) {
	for _, x := range noteTests {
		if s, e := person.Print(notes(x.note)); e != x.want || (s == "") != (e != api.OK) {
			t.Error(x.what, s, e)
		}
	}
	if s, e := person.Print(repeat(61, always(named("a")))); s != "" || e != api.ErrLarge {
		t.Error(s, e)
	}
}

// wrongLines are lines that are none of an entry.
var wrongLines = []string{
	"", " ", "  ", "   ", "    ", "a", "a 0", "a 0 1 2", "a 0 1 2 3 4", "a 0 1 2 3 ", " a 0 1 2 3", "a  0 1 2 3", "a 0  1 2 3", "a 0 1 2  3", "a 0 1 2 ", "0 1 2 3",
	"a b 0 1 2 3", "a\t0 1 2 3", "a 0,1 2 3", "a 0 1 2 3\r", "a 0 1 2 3\x00", "a b 1 2 3", "a 0 b 2 3", "a 0 1 b 3", "a 0 1 2 b",
	"a -1 1 2 3", "a 0 -1 2 3", "a 0 1 -2 3", "a 0 1 2 -3", "a -0 1 2 3", "a +0 1 2 3", "a 0 +1 2 3", "a 0 1 +2 3", "a 0 1 2 +3",
	"a 00 1 2 3", "a 0 01 2 3", "a 0 1 02 3", "a 0 1 2 03", "a 0 1 2 0003", "a 0x0 1 2 3", "a 1_0 1 2 3", "a 0 1. 2 3", "a 0 1 2e0 3",
	"a 10000000 1 2 3", "a 0 10000000 2 3", "a 0 1 10000000 3", "a 0 1 2 10000000", "a 0 1 2 99999999999999999999", "a 0 1 2 -99999999999999999999", "a 0 1 2 ٣",
}

// P4.10: the first wrong line is told with its number; before that, that a text is too
// long; behind it the errors of the entries.
func TestWrongTextsOfEntries(t *testing.T) {
	right := "a 0 1 2 3\n"
	check := func(text string, number int, want api.Errno) {
		t.Helper()
		if l, n, e := person.Parse(text); l != nil || n != number || e != want {
			t.Errorf("%q: %v %d %d", text[:min(len(text), 60)], l, n, e)
		}
	}
	for _, line := range wrongLines {
		check(line+"\n", 1, api.ErrSyntax)
		check(line+"\n"+right, 1, api.ErrSyntax)
		check(right+line+"\n", 2, api.ErrSyntax)
		check(right+right+line+"\n"+line+"\n", 3, api.ErrSyntax)
		check("[ba] 9 5 7 9999999\n"+line+"\n", 2, api.ErrSyntax)
		if line != "" {
			check(line, 1, api.ErrSyntax)
		}
	}
	check("a 0 1 2 3", 1, api.ErrSyntax)
	check(right+"a 0 1 2 3", 2, api.ErrSyntax)
	check(right+"a 0 1 2 3\n\n", 3, api.ErrSyntax)
	check(strings.Repeat(right, 60)+"a", 61, api.ErrSyntax)
	check(strings.Repeat(right, 100)+"a", 101, api.ErrSyntax)
	check("\n", 1, api.ErrSyntax)
	check(right+"\n", 2, api.ErrSyntax)
}

// P4.10: names may be any words, also empty; their errors are those of CheckNotes.
func TestEntriesOfTextsWithErrors(t *testing.T) {
	tests := []struct {
		text string
		want api.Errno
	}{
		{" 0 1 2 3\n", api.ErrSyntax},
		{"[b 0 1 2 3\n", api.ErrSyntax},
		{"1 0 1 2 3\n", api.ErrSyntax},
		{"\xff\x00\r 0 1 2 3\n", api.ErrSyntax},
		{"é 0 1 2 3\n", api.ErrSyntax},
		{strings.Repeat("a", 25) + " 0 1 2 3\n", api.ErrLarge},
		{"a 0 1 2 9999999\n", api.ErrRange},
		{"a 200001 1 2 3\n", api.ErrRange},
		{"a 1 0 2 3\n", api.ErrOrder},
		{"a 0 1 3 2\n", api.ErrOrder},
		{"a 4 5 2 3\n", api.ErrClash},
		{"a 4 5 2 3\n 0 1 2 3\n", api.ErrClash},
		{" 0 1 2 3\na 4 5 2 3\n", api.ErrSyntax},
		{strings.Repeat("a 0 1 2 3\n", 61), api.ErrLarge},
		{strings.Repeat(" 9 5 2 3\n", 61), api.ErrLarge},
		{strings.Repeat("a 0 1 2 3\n", 6000), api.ErrLarge},
	}
	for _, x := range tests {
		if l, n, e := person.Parse(x.text); l != nil || n != 0 || e != x.want {
			t.Errorf("%q: %v %d %d", x.text[:min(len(x.text), 60)], l, n, e)
		}
	}
}

// P4.10: a text has at most 60000 bytes.
func TestLongTexts(t *testing.T) {
	long := strings.Repeat("x", api.MaxText-9) + " 0 1 2 3\n"
	if l, n, e := person.Parse(long); l != nil || n != 0 || e != api.ErrLarge {
		t.Error(l, n, e) // the error of the name, which has too many signs
	}
	wrong := strings.Repeat("1", api.MaxText-9) + " 0 1 2 3\n"
	if l, n, e := person.Parse(wrong); l != nil || n != 0 || e != api.ErrSyntax {
		t.Error(l, n, e)
	}
	if l, n, e := person.Parse("1" + wrong); l != nil || n != 0 || e != api.ErrLarge {
		t.Error(l, n, e)
	}
	if l, n, e := person.Parse(strings.Repeat("\n", api.MaxText)); l != nil || n != 1 || e != api.ErrSyntax {
		t.Error(l, n, e)
	}
	if l, n, e := person.Parse(strings.Repeat("\n", api.MaxText+1)); l != nil || n != 0 || e != api.ErrLarge {
		t.Error(l, n, e)
	}
}

// P4.10: what entries are printed as is more than may be read, if all their signs have
// nearly all letters.
func TestPrintOfLongNames(t *testing.T) {
	long := strings.Repeat("["+alphabet[1:]+"]", api.MaxSigns)
	most := repeat(api.MaxNotes, always(named(long)))
	s, e := person.Print(most)
	if s != strings.Repeat(long+" 0 0 0 0\n", api.MaxNotes) || e != api.OK {
		t.Error(len(s), e)
	}
	if l, n, e := person.Parse(s); l != nil || n != 0 || e != api.ErrLarge {
		t.Error(l, n, e)
	}
	few := most[:45]
	s, _ = person.Print(few)
	if l, n, e := person.Parse(s); !slices.Equal(l, few) || n != 0 || e != api.OK {
		t.Error(n, e)
	}
}
