package money_test

import (
	"math"
	"slices"
	"strconv"
	"strings"
	"testing"

	"mortsafe/api"
	"mortsafe/money"
)

// words are texts that may stand for a name in a text.
var words = []string{"", "a", "fees", "-", "7", "-1", "a.b", "é", "\xff", "a\tb\r\x00", "abcdefghijklmnop"}

// P9.6: texts of postings, right or not.
func TestPostingTexts(t *testing.T) {
	l := map[string]api.Posting{
		"3 500 fees bank":                  posting(3, 500, "fees", "bank"),
		"0 0 a b":                          posting(0, 0, "a", "b"),
		"200000 1000000000000 a a":         posting(200000, 1000000000000, "a", "a"),
		"-5 -7 a b":                        posting(-5, -7, "a", "b"),
		"9999999999999 -9999999999999 a b": posting(9999999999999, -9999999999999, "a", "b"),
		"-1000000000000 1000000000001 a b": posting(-1000000000000, 1000000000001, "a", "b"),
		"5 10  ":                           posting(5, 10, "", ""),
		"5 10  b":                          posting(5, 10, "", "b"),
		"5 10 a ":                          posting(5, 10, "a", ""),
		"5 10 a\n \n":                      posting(5, 10, "a\n", "\n"),
		"5 10 " + strings.Repeat("x", 70000) + " y": posting(5, 10, strings.Repeat("x", 70000), "y"),
	}
	for i, word := range words {
		other := words[(i+3)%len(words)]
		l["5 10 "+word+" "+other] = posting(5, 10, word, other)
	}
	for text, p := range l {
		if got := money.FormatPosting(p); got != text {
			t.Errorf("FormatPosting: %q, not %q", got, text)
		}
		got, e := money.ParsePosting(text)
		check(t, "ParsePosting", got, e, p)
	}
}

// P9.6: postings have texts also if ParsePosting does not read them.
func TestFormatsAnything(t *testing.T) {
	for text, p := range map[string]api.Posting{
		"9223372036854775807 -9223372036854775808 a b": posting(math.MaxInt, math.MinInt, "a", "b"),
		"10000000000000 -10000000000000 a b":           posting(10000000000000, -10000000000000, "a", "b"),
		"1 2 a b c d":                                  posting(1, 2, "a b", "c d"),
	} {
		if got := money.FormatPosting(p); got != text {
			t.Errorf("FormatPosting: %q, not %q", got, text)
		}
		got, e := money.ParsePosting(text)
		checkError(t, "ParsePosting", []any{got}, e, api.ErrSyntax)
	}
}

// wrongNumbers are words that are no numbers in any text.
var wrongNumbers = []string{"", "x", "-", "+1", "01", "00", "-0", "-01", "--1", "1-", "1.0", "1_0", "0x1", "1e3", "99999999999999999999", "00000000000001", "١", "1,", "\x001", "1\n"}

// P9.6: texts that are no postings.
func TestWrongPostingTexts(t *testing.T) {
	l := []string{
		"", " ", "   ", "    ", "5", "5 10", "5 10 a", "5 10 a b ", "5 10 a b c", " 5 10 a b", "5  10 a b", "5 10 a  b", "a b 5 10", "5 a 10 b",
		"5\t10 a b", "5,10 a b", "5 10 a b\n ", strings.Repeat("x", 70000), strings.Repeat(" ", 70000),
	}
	for _, number := range with(wrongNumbers, "10000000000000", "-10000000000000") {
		l = append(l, number+" 10 a b", "5 "+number+" a b")
	}
	for _, text := range l {
		p, e := money.ParsePosting(text)
		checkError(t, "ParsePosting of "+strconv.Quote(text[:min(len(text), 99)]), []any{p}, e, api.ErrSyntax)
	}
}

// P9.9: texts of tariffs.
func TestTexts(t *testing.T) {
	for _, c := range []struct {
		l    []api.Rate
		want string
	}{
		{nil, ""}, {rates()[:1], "grave 365 120000\n"}, {rates(), "grave 365 120000\nurn 20 500\ngrave 0 100000\nurn 10 500\nurn 30 0\n"},
		{[]api.Rate{rate("A-9-z", 200000, 1000000), rate("abcdefghijkl", 0, 0)}, "A-9-z 200000 1000000\nabcdefghijkl 0 0\n"},
		{longTariff(100), strings.Join(repeat(100, func(i int) string { return "c" + strconv.Itoa(i%7) + strings.Repeat(" "+strconv.Itoa(i), 2) + "\n" }), "")},
	} {
		text, e := money.Print(c.l)
		check(t, "Print", text, e, c.want)
		l, i, e := money.Parse(c.want)
		check(t, "Parse", l, e, c.l)
		check(t, "Parse: no line", i, e, 0)
	}
}

// wrongText is a text that is none, with the number of its first wrong line.
type wrongText struct {
	text string
	line int
}

func checkTexts(t *testing.T, l []wrongText) {
	t.Helper()
	for _, c := range l {
		rates, i, e := money.Parse(c.text)
		checkError(t, "Parse of "+strconv.Quote(c.text[:min(len(c.text), 99)]), []any{rates}, e, api.ErrSyntax)
		if i != c.line {
			t.Errorf("%q: line %d, not %d", c.text[:min(len(c.text), 99)], i, c.line)
		}
	}
}

// P9.9: the first line that is none, or has no line feed.
func TestWrongLines(t *testing.T) {
	l := []wrongText{{"grave 0 1", 1}, {"grave 0 1\nurn 0 1", 2}, {"grave 0 1\n\n", 2}, {"\n", 1}, {"\ngrave 0 1\n", 1}, {"x\nx", 1}, {"a 0 1\na 0 1\n\n", 3}, {"1 0 1\n1 0 1\nx", 3}}
	for _, line := range []string{
		"", " ", "  ", "   ", "grave", "grave 0", "grave 0 ", "grave 0 1 ", "grave 0 1 2", "grave  0 1", "grave 0  1", " grave 0 1", "0 1", "0 grave 1", "grave\t0 1", "grave 0\t1", "grave 0 1\r",
	} {
		l = append(l, wrongText{line + "\n", 1}, wrongText{"a 0 1\n" + line + "\n", 2}, wrongText{"a 0 1\nb 5 6\n" + line + "\nx\n", 3})
	}
	for _, number := range with(wrongNumbers, "-1", "-200000", "10000000", "00000001") {
		if !strings.Contains(number, "\n") {
			l = append(l, wrongText{"a " + number + " 0\n", 1}, wrongText{"a 0 1\na 0 " + number + "\n", 2})
		}
	}
	checkTexts(t, l)
}

// P9.9: right lines of wrong rates have the errors of CheckRates, without a line.
func TestWrongTariffs(t *testing.T) {
	l := map[string]api.Errno{
		"a 200001 1\n": api.ErrRange, "a 9999999 1\n": api.ErrRange, "a 0 1000001\n": api.ErrRange, "a 0 9999999\n": api.ErrRange, "a 0 1\na 0 2\n": api.ErrExists,
		strings.Repeat("a 0 1\n", 101): api.ErrLarge, strings.Repeat(" 0 1\n", 12000): api.ErrLarge, "a 0 1\nb 9999999 1\na 0 1\n": api.ErrRange,
		"a 0 1\na 0 1\n" + strings.Repeat("1 0 1\n", 98): api.ErrExists,
	}
	for _, name := range wrongNames {
		if !strings.ContainsAny(name, " \n") {
			l[name+" 0 1\n"], l["a 0 1\n"+name+" 9999999 9999999\n"] = api.ErrName, api.ErrName
		}
	}
	for text, want := range l {
		rates, i, e := money.Parse(text)
		checkError(t, "Parse of "+strconv.Quote(text[:min(len(text), 99)]), []any{rates, i}, e, want)
	}
}

// P9.9: the length of a text decides before what is in it.
func TestLargeTexts(t *testing.T) {
	long := func(n int) string { return strings.Repeat("x", n-5) + " 0 1\n" }
	for _, text := range []string{strings.Repeat("x", 60001), long(60001), strings.Repeat("\n", 1<<20), strings.Repeat("a 0 1\n", 10001)} {
		rates, i, e := money.Parse(text)
		checkError(t, "Parse of much", []any{rates, i}, e, api.ErrLarge)
	}
	checkTexts(t, []wrongText{{strings.Repeat("x", 60000), 1}, {strings.Repeat(" ", 60000), 1}, {strings.Repeat("a 0 1\n", 9999) + "a 0 1x", 10000}, {strings.Repeat("a 0 1\n", 9999) + "a 0 1", 10000}})
	rates, i, e := money.Parse(long(60000))
	checkError(t, "Parse of a long class", []any{rates, i}, e, api.ErrName)
}

// P9.9: Parse reads just what Print writes: a text with any one byte changed, left out or put in
// between is wrong, or is told again.
func TestTextsByBytes(t *testing.T) {
	const text = "grave 365 120\nb 0 7\nc 12 100\n"
	read := 0
	for i := range len(text) + 1 {
		for _, s := range []string{"", " ", "\n", "0", "-", "x", "1"} {
			for _, to := range []int{i, min(i+1, len(text))} {
				changed := text[:i] + s + text[to:]
				l, line, e := money.Parse(changed)
				if e == api.OK {
					again, e := money.Print(l)
					check(t, "Print", again, e, changed)
					read++
					continue
				}
				at := 1 + strings.Count(text[:i], "\n")
				if e == api.ErrSyntax && !slices.Contains([]int{at - 1, at, at + 1}, line) || e != api.ErrSyntax && line != 0 || len(l) > 0 {
					t.Errorf("%q: %v %d %d", changed, l, line, e)
				}
			}
		}
	}
	if read < 50 || read > 200 {
		t.Error(read)
	}
}
