package consent_test

import (
	"math/rand"
	"regexp"
	"strings"
	"testing"

	"mortsafe/api"
	"mortsafe/consent"
)

// textsOfRules are rules and their texts.
func textsOfRules() map[string]api.Rule {
	return map[string]api.Rule{
		"a":                                 person("a"),
		"A-9-z":                             person("A-9-z"),
		"all":                               person("all"),
		"any":                               person("any"),
		"of":                                person("of"),
		"all()":                             needless(),
		"any()":                             never(),
		"0 of ()":                           sumOf(0, nil),
		"50000 of ()":                       sumOf(50000, nil),
		"any(a, all(b, c))":                 abc(),
		"all(any(a, a), a)":                 allOf(anyOf(persons("a a")...), person("a")),
		"all(all, any, of, all())":          allOf(person("all"), person("any"), person("of"), needless()),
		"any(any())":                        anyOf(never()),
		"4 of (3 a, 2 b, 1 c)":              sumOf(4, []int{3, 2, 1}, persons("a b c")...),
		"1 of (1000 a)":                     sumOf(1, []int{1000}, person("a")),
		"3 of (2 1 of (1 a))":               sumOf(3, []int{2}, sumOf(1, []int{1}, person("a"))),
		"3 of (2 any(), 12 all(a, b))":      sumOf(3, []int{2, 12}, never(), allOf(persons("a b")...)),
		"all(0 of (), 10 of (1 of, 2 all))": allOf(sumOf(0, nil), sumOf(10, []int{1, 2}, persons("of all")...)),
	}
}

// P6.10: texts of rules, and rules of texts.
func TestTexts(t *testing.T) {
	for s, r := range textsOfRules() {
		got, e := consent.Print(r)
		check(t, "Print", got, e, s)
		parsed, e := consent.Parse(s)
		check(t, "Parse of "+s, parsed, e, r)
	}
	large := sumOf(39001, repeat(39, always(1000)), repeat(39, always(person("abcdefghijkl")))...)
	s := "39001 of (" + strings.Repeat("1000 abcdefghijkl, ", 38) + "1000 abcdefghijkl)"
	got, e := consent.Print(large)
	check(t, "Print", got, e, s)
	parsed, e := consent.Parse(s)
	check(t, "Parse", parsed, e, large)
}

// wrongTexts are texts of no rule.
var wrongTexts = []string{
	"", " ", "a ", " a", "a b", "a, b", "a,", "a\n", "\n", "é", "aé", "a_b", "a.", "\x00", "\xff", "(", ")", "()", "(a)",
	"all(", "all)", "all(a", "all(a))", "all(a) ", " all(a)", "all (a)", "all( a)", "all(a )", "all(a,b)", "all(a,  b)", "all(a , b)", "all(a, )", "all(, a)", "all(,)", "all(, )", "all(a b)", "all(a, b", "all(a)b", "all(a)(b)", "all(all(a)", "all(a)all(b)",
	"any(", "any (a)", "any(a,b)", "any(a, )", "any(a, all(b)", "All(a)", "ALL(a)", "aall(a)", "all-(a)", "alls(a)", "of (1 a)", " of (1 a)",
	"2 of (a)", "2 of (a, b)", "2 of(1 a)", "2 of  (1 a)", "2  of (1 a)", "2 of (1 a", "2 of (1 a))", "2 of (1  a)", "2 of ( 1 a)", "2 of (1 a )", "2 of (1 a,1 b)", "2 of (1 a, b)", "2 of (1 a, 1)", "2 of (1)", "2 of (1 )", "2 of (1 a, )", "2 of (a 1)", "2 of (1a)", "2 of", "2 of ", "2 of (", "2of (1 a)", "2 OF (1 a)", "2 of (1 1 a)", "2 of 1 a", "2 of [1 a]",
	"02 of (1 a)", "00 of ()", "2 of (01 a)", "2 of (00 a)", "-1 of (1 a)", "-0 of ()", "+2 of (1 a)", "2 of (+1 a)", "2 of (-1 a)", "2 of (-0 a)", "a of (1 a)", "2a of (1 a)", "2 of (b a)", "2.0 of (1 a)", "0x2 of ()", "1_0 of ()", "1e2 of ()", "1000000 of (1 a)", "0000001 of (1 a)", "1 of (1000000 a)", "99999999999999999999 of (1 a)", "1 of (99999999999999999999 a)", "9223372036854775808 of ()", "18446744073709551617 of ()",
	"all(1 a)", "any(2 a, 3 b)", "1 of (1 a, 1 b) ", "1 of (1 all(a)", "1 of (1 of (1 a)", "1 of (of (1 a))", "1 of (2 of (1 a))", "1 of (1 a)\n", "all()\x00", "al(a)", "anyall()", "all((a))", "all(a; b)",
}

// P6.10: texts of no rule.
func TestWrongTexts(t *testing.T) {
	for _, s := range wrongTexts {
		r, e := consent.Parse(s)
		checkError(t, "Parse of "+s, []any{r}, e, api.ErrSyntax)
	}
	// no other error comes before
	for _, s := range []string{"any(1a, b", "1000 of (1000000 a)", "99999 of (a)", "any(1" + strings.Repeat(", a", 100), "all(abcdefghijklm, )"} {
		r, e := consent.Parse(s)
		checkError(t, "Parse of "+s, []any{r}, e, api.ErrSyntax)
	}
}

// P6.10: texts whose rules are wrong.
func TestTextsOfWrongRules(t *testing.T) {
	texts := map[string]api.Errno{
		"1":                       api.ErrName,
		"1a":                      api.ErrName,
		"-":                       api.ErrName,
		"-1":                      api.ErrName,
		"007":                     api.ErrName,
		"abcdefghijklm":           api.ErrName,
		"all(a, 1)":               api.ErrName,
		"1 of (1 2)":              api.ErrName,
		"1 of (1 1234567)":        api.ErrName,
		"1 of (1 -a)":             api.ErrName,
		"1 of (0 a)":              api.ErrRange,
		"1 of (1001 a)":           api.ErrRange,
		"1 of (999999 a)":         api.ErrRange,
		"50001 of ()":             api.ErrRange,
		"999999 of ()":            api.ErrRange,
		"50001 of (1 1)":          api.ErrRange,
		"any(1, 50001 of ())":     api.ErrName,
		strings.Repeat("9", 2000): api.ErrName,
		strings.Repeat("all(", 40) + strings.Repeat(")", 40):         api.OK,
		strings.Repeat("all(", 41) + strings.Repeat(")", 41):         api.ErrLarge,
		strings.Repeat("any(", 399) + "a" + strings.Repeat(")", 399): api.ErrLarge,
		"any(1" + strings.Repeat(", a", 38) + ")":                    api.ErrName,
		"any(1" + strings.Repeat(", a", 39) + ")":                    api.ErrLarge,
		"50001 of (0 1" + strings.Repeat(", 1 a", 39) + ")":          api.ErrLarge,
	}
	for s, want := range texts {
		r, e := consent.Parse(s)
		if e != want || e != api.OK && isSomething(r) {
			t.Errorf("Parse of %s: %v %d, not %d", s, r, e, want)
		}
	}
}

// P6.10: texts that are too long, right or wrong.
func TestLongTexts(t *testing.T) {
	name := strings.Repeat("a", 2000)
	for s, want := range map[string]api.Errno{
		name: api.ErrName, name + "a": api.ErrLarge, "(" + name: api.ErrLarge, "(" + name[1:]: api.ErrSyntax,
		strings.Repeat("all(", 1<<18): api.ErrLarge, strings.Repeat("all(", 500): api.ErrSyntax,
		"any(" + strings.Repeat("a, ", 664) + "a)": api.ErrLarge, strings.Repeat(" ", 2001): api.ErrLarge,
	} {
		r, e := consent.Parse(s)
		checkError(t, "Parse of a long text", []any{r}, e, want)
	}
	// longer in bytes than in letters
	r, e := consent.Parse(strings.Repeat("é", 1001))
	checkError(t, "Parse", []any{r}, e, api.ErrLarge)
}

// isTextOfRule tells by rewriting whether a text is one of a rule: names become "%", and
// then each list of such becomes one.
func isTextOfRule(s string) bool {
	if strings.Contains(s, "%") {
		return false
	}
	s = regexp.MustCompile(`[A-Za-z0-9-]+(,|\)|\z)`).ReplaceAllString(s, "%$1")
	const number = `(?:0|[1-9][0-9]{0,5})`
	node := regexp.MustCompile(`(?:all|any)\((?:%(?:, %)*)?\)|` + number + ` of \((?:` + number + ` %(?:, ` + number + ` %)*)?\)`)
	for {
		shorter := node.ReplaceAllString(s, "%")
		if shorter == s {
			return s == "%"
		}
		s = shorter
	}
}

// P6.10: texts that are changed at random are texts of rules just if the grammar says so.
func TestRandomTexts(t *testing.T) {
	r := rand.New(rand.NewSource(1))
	pieces := append(strings.Split("all(any( of (), 0123-ab1 ", ""), "all(", "any(", " of (", ", ", ")", "1 ", "12 of (", "a", "é", "", "")
	right := 0
	for range 60000 {
		s, e := consent.Print(randomRule(r, 1+r.Intn(10), 4))
		for range r.Intn(4) {
			from := r.Intn(len(s) + 1)
			to := min(len(s), from+r.Intn(4))
			s = s[:from] + pickOne(r, pieces) + s[to:]
		}
		parsed, wrong := consent.Parse(s)
		if is := isTextOfRule(s); e != api.OK || is == (wrong == api.ErrSyntax) {
			t.Fatal(s, e, is, wrong)
		}
		if wrong != api.OK {
			continue
		}
		right++
		if got := text(parsed, 0); got != s {
			t.Fatal(s, got)
		}
	}
	if right < 5000 || right > 50000 {
		t.Error(right)
	}
}

// P6.13: what is printed is parsed to the same rule.
func TestTextsAreRead(t *testing.T) {
	r := rand.New(rand.NewSource(2))
	for range 5000 {
		x := randomRule(r, 1+r.Intn(40), 8)
		s, e := consent.Print(x)
		parsed, wrong := consent.Parse(s)
		if !equal(parsed, x) || e != api.OK || wrong != api.OK {
			t.Fatal(s, e, parsed, wrong)
		}
	}
}
