package rule_test

import (
	"math"
	"math/rand"
	"slices"
	"strings"
	"testing"

	"mortsafe/api"
	"mortsafe/rule"
)

const feesText = "fee 100 10 5\nfee 120 20 15\nfee 110 20 25\nfee repeal 30 28\n"

// P2.8: the texts of provisions, with the chapter's example 8, also of wrong ones.
func TestFormatProvision(t *testing.T) {
	for _, c := range []struct {
		p    api.Provision
		want string
	}{
		{fees()[0], "fee 100 10 5"},
		{fees()[3], "fee repeal 30 28"},
		{sets("a-B-9", -7, 0, api.MaxDay), "a-B-9 -7 0 200000"},
		{api.Provision{}, " 0 0 0"},
		{api.Provision{Name: "a b", Value: 5, From: -1, Entered: -2, Repeal: true}, "a b repeal -1 -2"},
		{sets("\n", math.MinInt, math.MaxInt, math.MinInt), "\n -9223372036854775808 9223372036854775807 -9223372036854775808"},
	} {
		if s := rule.FormatProvision(c.p); s != c.want {
			t.Errorf("%v: %q", c.p, s)
		}
	}
}

// P2.8: texts that are provisions, and texts that are none.
func TestParseProvision(t *testing.T) {
	long := func(n int) string { return strings.Repeat("a", n-6) + " 1 2 3" }
	for _, c := range []struct {
		s    string
		p    api.Provision
		want api.Errno
	}{
		{"fee 100 10 5", sets("fee", 100, 10, 5), api.OK},
		{"fee repeal 30 28", repeals("fee", 30, 28), api.OK},
		{"repeal repeal 0 0", repeals("repeal", 0, 0), api.OK},
		{"repeal 1 0 0", sets("repeal", 1, 0, 0), api.OK},
		{"a 0 0 0", sets("a", 0, 0, 0), api.OK},
		{"a -1000000000 200000 200000", sets("a", -1000000000, 200000, 200000), api.OK},
		{"a 1000000000 0 0", sets("a", 1000000000, 0, 0), api.OK},
		{long(201), api.Provision{}, api.ErrLarge},
		{strings.Repeat(" ", 201), api.Provision{}, api.ErrLarge},
		{long(200), api.Provision{}, api.ErrName},
		{"", api.Provision{}, api.ErrSyntax},
		{"a", api.Provision{}, api.ErrSyntax},
		{"a 1 2", api.Provision{}, api.ErrSyntax},
		{"a 1 2 3 4", api.Provision{}, api.ErrSyntax},
		{"a 1 2 3 ", api.Provision{}, api.ErrSyntax},
		{"a 1 2 3\n", api.Provision{}, api.ErrSyntax},
		{"a  1 2 3", api.Provision{}, api.ErrSyntax},
		{"a\t1 2 3", api.Provision{}, api.ErrSyntax},
		{"a 1 2 ", api.Provision{}, api.ErrSyntax},
		{"a  2 3", api.Provision{}, api.ErrSyntax},
		{"a\nb 1 2 3", api.Provision{}, api.ErrSyntax},
		{"\n 1 2 3", api.Provision{}, api.ErrSyntax},
		{"\n 1 -2 3", api.Provision{}, api.ErrSyntax},
		{"a Repeal 2 3", api.Provision{}, api.ErrSyntax},
		{"a repealed 2 3", api.Provision{}, api.ErrSyntax},
		{"a 1 repeal 3", api.Provision{}, api.ErrSyntax},
		{"a 1 2 repeal", api.Provision{}, api.ErrSyntax},
		{"a 01 2 3", api.Provision{}, api.ErrSyntax},
		{"a 00 2 3", api.Provision{}, api.ErrSyntax},
		{"a -0 2 3", api.Provision{}, api.ErrSyntax},
		{"a -01 2 3", api.Provision{}, api.ErrSyntax},
		{"a +1 2 3", api.Provision{}, api.ErrSyntax},
		{"a --1 2 3", api.Provision{}, api.ErrSyntax},
		{"a - 2 3", api.Provision{}, api.ErrSyntax},
		{"a 1_0 2 3", api.Provision{}, api.ErrSyntax},
		{"a 1x 2 3", api.Provision{}, api.ErrSyntax},
		{"a 1: 2 3", api.Provision{}, api.ErrSyntax},
		{"a 1/ 2 3", api.Provision{}, api.ErrSyntax},
		{"a \u0661 2 3", api.Provision{}, api.ErrSyntax},
		{"a 10000000000 2 3", api.Provision{}, api.ErrSyntax},
		{"a -10000000000 2 3", api.Provision{}, api.ErrSyntax},
		{"a 1 02 3", api.Provision{}, api.ErrSyntax},
		{"a 1 2 03", api.Provision{}, api.ErrSyntax},
		{" 1 2 03", api.Provision{}, api.ErrSyntax},
		{" 1 2 3", api.Provision{}, api.ErrName},
		{"1a 1 2 3", api.Provision{}, api.ErrName},
		{"\t 1 2 3", api.Provision{}, api.ErrName},
		{" 1000000001 2 3", api.Provision{}, api.ErrName},
		{"a 9999999999 2 3", api.Provision{}, api.ErrRange},
		{"a -9999999999 2 3", api.Provision{}, api.ErrRange},
		{"a 1000000001 2 3", api.Provision{}, api.ErrRange},
		{"a -1000000001 2 3", api.Provision{}, api.ErrRange},
		{"a 1 200001 3", api.Provision{}, api.ErrRange},
		{"a 1 -1 3", api.Provision{}, api.ErrRange},
		{"a 1 2 200001", api.Provision{}, api.ErrRange},
		{"a repeal 2 -1", api.Provision{}, api.ErrRange},
	} {
		if p, e := rule.ParseProvision(c.s); p != c.p || e != c.want {
			t.Errorf("%q: %v %d", c.s, p, e)
		}
	}
}

// P2.8: Print, with the errors of the entries.
func TestPrint(t *testing.T) {
	for _, c := range []struct {
		l    []api.Provision
		want string
		err  api.Errno
	}{
		{nil, "", api.OK},
		{fees(), feesText, api.OK},
		{[]api.Provision{sets("a", 1, 0, 5), sets("a", 1, 0, 4)}, "", api.ErrOrder},
		{slices.Repeat(fees()[:1], 201), "", api.ErrLarge},
		{[]api.Provision{{}}, "", api.ErrName},
	} {
		if s, e := rule.Print(c.l); s != c.want || e != c.err {
			t.Errorf("%v: %q %d", c.l, s, e)
		}
	}
}

// P2.8: Parse, with the number of the first line that is none.
func TestParse(t *testing.T) {
	for _, c := range []struct {
		what, s string
		l       []api.Provision
		line    int
		want    api.Errno
	}{
		{"nothing", "", nil, 0, api.OK},
		{"the example", feesText, fees(), 0, api.OK},
		{"no line feed", "fee 100 10 5", nil, 1, api.ErrSyntax},
		{"no line feed at the end", feesText + "fee 1 2 3", nil, 5, api.ErrSyntax},
		{"no line feed of a wrong line", "fee", nil, 1, api.ErrSyntax},
		{"an empty line", "\n", nil, 1, api.ErrSyntax},
		{"an empty line behind", feesText + "\n", nil, 5, api.ErrSyntax},
		{"an empty line ahead", "\n" + feesText, nil, 1, api.ErrSyntax},
		{"a carriage return", "fee 100 10 5\r\n", nil, 1, api.ErrSyntax},
		{"a wrong number", "fee 1 2 3\nfee 01 2 3\n", nil, 2, api.ErrSyntax},
		{"two wrong lines", "fee 1 2 3\nfee\nfee 01 2 3\n", nil, 2, api.ErrSyntax},
		{"a long line", "fee 1 2 3\n" + strings.Repeat("a", 195) + " 1 2 3\n", nil, 2, api.ErrSyntax},
		{"a wrong name before a wrong line", " 1 2 3\nfee\n", nil, 2, api.ErrSyntax},
		{"a wrong name", " 1 2 3\n", nil, 0, api.ErrName},
		{"the longest line, with a wrong name", strings.Repeat("a", 194) + " 1 2 3\n", nil, 0, api.ErrName},
		{"a wrong value", "fee 1 2 3\na 1000000001 2 3\n", nil, 0, api.ErrRange},
		{"a wrong order", "fee 1 2 3\na 1 2 2\n", nil, 0, api.ErrOrder},
		{"a wrong order before a wrong name", "fee 1 2 3\na 1 2 2\n 1 2 3\n", nil, 0, api.ErrOrder},
		{"most lines", strings.Repeat("fee 100 10 5\n", 200), slices.Repeat(fees()[:1], 200), 0, api.OK},
		{"too many lines", strings.Repeat("fee 100 10 5\n", 201), nil, 0, api.ErrLarge},
		{"too many lines, the last one wrong", strings.Repeat("fee 100 10 5\n", 201) + "fee\n", nil, 202, api.ErrSyntax},
		{"the longest text", strings.Repeat("\n", 60000), nil, 1, api.ErrSyntax},
		{"a text too long", strings.Repeat("\n", 60001), nil, 0, api.ErrLarge},
		{"the longest text of entries", strings.Repeat("a 1 2 3\n", 7500), nil, 0, api.ErrLarge},
	} {
		l, line, e := rule.Parse(c.s)
		if !slices.Equal(l, c.l) || line != c.line || e != c.want {
			t.Error(c.what, l, line, e)
		}
	}
}

// P2.8, P2.11: what is written is read again.
func TestWrittenAndRead(t *testing.T) {
	r := rand.New(rand.NewSource(12))
	for range 1000 {
		l := randomProvisions(r)
		for i := range l {
			if !l[i].Repeal {
				l[i].Value = r.Intn(2*mostValue+1) - mostValue
			}
			l[i].From = r.Intn(api.MaxDay + 1)
			if p, e := rule.ParseProvision(rule.FormatProvision(l[i])); p != l[i] || e != api.OK {
				t.Fatal(l[i], p, e)
			}
		}
		text, e := rule.Print(l)
		if e != api.OK {
			t.Fatal(l, e)
		}
		if back, line, e := rule.Parse(text); !slices.Equal(back, l) || line != 0 || e != api.OK {
			t.Fatal(l, back, line, e)
		}
	}
}
