package notice_test

import (
	"math"
	"slices"
	"strconv"
	"strings"
	"testing"

	"mortsafe/api"
	"mortsafe/notice"
)

// P8.8: texts of notices, right or not.
func TestTexts(t *testing.T) {
	for _, c := range []struct {
		n    api.Notice
		want string
	}{
		{opened(0), "notice n 0\n"},
		{opened(0, [3]int{0, 0, 0}), "notice n 0\nact 0 0 0\n"},
		{opened(5, [3]int{12, 3, 0}, [3]int{20, 4, 0}, [3]int{41, 6, 4}), "notice n 5\nact 12 3 0\nact 20 4 0\nact 41 6 4\n"},
		{opened(-5, [3]int{-1, -2, -3}, [3]int{-1, 99, 7}), "notice n -5\nact -1 -2 -3\nact -1 99 7\n"},
		{opened(9999999, [3]int{-9999999, 1000000, -1}), "notice n 9999999\nact -9999999 1000000 -1\n"},
		{named("", opened(7)), "notice  7\n"},
		{named("notice", opened(7)), "notice notice 7\n"},
		{named("77", opened(7)), "notice 77 7\n"},
		{named("a\t\r\x00\xff.é-", opened(7)), "notice a\t\r\x00\xff.é- 7\n"},
		{named(strings.Repeat("x", 1000), opened(7)), "notice " + strings.Repeat("x", 1000) + " 7\n"},
		{opened(0, make([][3]int, 40)...), "notice n 0\n" + strings.Repeat("act 0 0 0\n", 40)},
	} {
		text, e := notice.Print(c.n)
		check(t, "Print", text, e, c.want)
		n, i, e := notice.Parse(c.want)
		check(t, "Parse", n, e, c.n)
		check(t, "Parse: no line", i, e, 0)
	}
}

// P8.8: texts that Parse does not read are told, too.
func TestPrintsAnything(t *testing.T) {
	for _, c := range []struct {
		n    api.Notice
		want string
	}{
		{named("a b\n", opened(math.MaxInt)), "notice a b\n 9223372036854775807\n"},
		{opened(math.MinInt, [3]int{math.MinInt, math.MaxInt, 10000000}), "notice n -9223372036854775808\nact -9223372036854775808 9223372036854775807 10000000\n"},
	} {
		text, e := notice.Print(c.n)
		check(t, "Print", text, e, c.want)
	}
	for _, n := range []api.Notice{opened(0, make([][3]int, 41)...), named("", opened(-1, make([][3]int, 1000)...))} {
		text, e := notice.Print(n)
		checkError(t, "Print of many acts", []any{text}, e, api.ErrLarge)
	}
}

// wrongText is a text that is none, with the number of its first wrong line.
type wrongText struct {
	text string
	line int
}

func checkTexts(t *testing.T, l []wrongText) {
	t.Helper()
	for _, c := range l {
		n, i, e := notice.Parse(c.text)
		checkError(t, strconv.Quote(c.text), []any{n}, e, api.ErrSyntax)
		if i != c.line {
			t.Errorf("%q: line %d, not %d", c.text, i, c.line)
		}
	}
}

// P8.8: lines that are missing, that have no line feed, or that stand out of their order.
func TestWrongOrderOfLines(t *testing.T) {
	const head, line = "notice n 0\n", "act 0 0 0\n"
	checkTexts(t, []wrongText{
		{"", 1}, {"\n", 1}, {" ", 1}, {"x", 1}, {"notice n 0", 1}, {line, 1}, {line + head, 1}, {"\n" + head, 1}, {" " + head, 1},
		{head + head, 2}, {head + "\n", 2}, {head + " ", 2}, {head + "x", 2}, {head + "act 0 0 0", 2}, {head + "\n" + line, 2},
		{head + line + "act 0 0 0", 3}, {head + line + "\n", 3}, {head + line + head, 3}, {head + line + "x\nx\n", 3}, {head + line + line + "act", 4},
		{strings.ReplaceAll(head+line, "\n", "\r\n"), 1}, {head + "act 0 0 0\r\n", 2}, {head + strings.Repeat(line, 50) + "x\n", 52},
		{head + strings.Repeat(line, 41) + "act 0 0 0", 43},
	})
}

// P8.8: lines that have none of the forms; numbers, and their digits.
func TestWrongLines(t *testing.T) {
	var l []wrongText
	for _, line := range []string{
		"notice", "notice ", "notice  ", "notice n", "notice n ", "notice 0", "notice n 0 ", "notice n  0", "notice  n 0", "notice n 0 0", "notice n m 0", " notice n 0",
		"Notice n 0", "notices n 0", "notic n 0", "notice\tn 0", "notice n\t0", "noticen 0", "n 0",
	} {
		l = append(l, wrongText{line + "\n", 1}, wrongText{line + "\nact 0 0 0\n", 1})
	}
	for _, line := range []string{
		"act", "act ", "act 0", "act 0 0", "act 0 0 ", "act 0 0 0 ", "act 0 0 0 0", "act  0 0 0", "act 0  0 0", "act 0 0  0", " act 0 0 0", "Act 0 0 0", "acts 0 0 0",
		"ac 0 0 0", "act\t0 0 0", "act n 0 0 0", "0 0 0",
	} {
		l = append(l, wrongText{"notice n 0\n" + line + "\n", 2}, wrongText{"notice n 0\nact 1 2 3\n" + line + "\nact 0 0 0\n", 3})
	}
	for _, number := range []string{
		"", "x", "-", "+1", "01", "00", "-0", "-01", "--1", "1.0", "1_0", "0x1", "1e3", "10000000", "-10000000", "00000001", "99999999999999999999", "١", "1,", "\x001",
	} {
		l = append(l,
			wrongText{"notice n " + number + "\n", 1}, wrongText{"notice n 0\nact " + number + " 0 0\n", 2},
			wrongText{"notice n 0\nact 0 " + number + " 0\n", 2}, wrongText{"notice n 0\nact 0 0 " + number + "\n", 2},
		)
	}
	checkTexts(t, l)
}

// P8.8: the length of a text decides before what is in it, and that before the number of acts.
func TestLargeTexts(t *testing.T) {
	const head, line = "notice n 0\n", "act 0 0 0\n"
	long := "notice " + strings.Repeat("x", 60000-10) + " 0\n"
	for _, text := range []string{
		strings.Repeat("x", 60001), strings.Repeat("\n", 1<<20), head + strings.Repeat(line, 41), head + strings.Repeat(line, 5998), "notice x" + long[7:],
	} {
		n, i, e := notice.Parse(text)
		checkError(t, "Parse of much", []any{n, i}, e, api.ErrLarge)
	}
	checkTexts(t, []wrongText{
		{strings.Repeat("x", 60000), 1}, {strings.Repeat(" ", 60000), 1}, {head + strings.Repeat("\n", 59000), 2}, {head + strings.Repeat(line, 5997) + "act 0 0 0", 5999},
	})
	n, i, e := notice.Parse(long)
	check(t, "Parse of a long name", n, e, named(strings.Repeat("x", 60000-10), opened(0)))
	check(t, "Parse: no line", i, e, 0)
}

// P8.8: Parse reads just what Print writes: a text with any one byte changed, left out or put in
// between is wrong, or is told again.
func TestTextsByBytes(t *testing.T) {
	const text = "notice n 12\nact 0 0 0\nact 7 6 -1\n"
	read := 0
	for i := range len(text) + 1 {
		for _, s := range []string{"", " ", "\n", "0", "-", "x", "1"} {
			for _, to := range []int{i, min(i+1, len(text))} {
				changed := text[:i] + s + text[to:]
				n, line, e := notice.Parse(changed)
				if e == api.OK {
					again, e := notice.Print(n)
					check(t, "Print", again, e, changed)
					read++
					continue
				}
				checkError(t, "Parse", []any{n}, e, api.ErrSyntax)
				if at := 1 + strings.Count(text[:i], "\n"); !slices.Contains([]int{at - 1, at, at + 1}, line) {
					t.Errorf("%q: line %d", changed, line)
				}
			}
		}
	}
	if read < 50 || read > 150 {
		t.Error(read)
	}
}
