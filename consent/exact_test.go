package consent_test

import (
	"slices"
	"strings"
	"testing"

	"mortsafe/api"
	"mortsafe/consent"
)

// exactAnswers are examples of the answers of exact questions.
type exactAnswers struct {
	r                   api.Rule
	smallest, refusals  [][]string
	indispensable, idle string
	enough              int
	counts              []int
}

func exactExamples() []exactAnswers {
	return []exactAnswers{
		{abc(), sets("a", "b c"), sets("a b", "a c"), "", "", 5, []int{3, 1, 1}},
		{person("a"), sets("a"), sets("a"), "a", "", 1, []int{1}},
		{someOf(2, "a b c"), sets("a b", "a c", "b c"), sets("a b", "a c", "b c"), "", "", 4, []int{2, 2, 2}},
		{someOf(2, "c a b"), sets("a b", "a c", "b c"), sets("a b", "a c", "b c"), "", "", 4, []int{2, 2, 2}},
		{sumOf(4, []int{3, 2, 1}, persons("a b c")...), sets("a b", "a c"), sets("a", "b c"), "a", "", 3, []int{3, 1, 1}},
		{allOf(person("a"), anyOf(persons("b c")...)), sets("a b", "a c"), sets("a", "b c"), "a", "", 3, []int{3, 1, 1}},
		{anyOf(person("a"), allOf(persons("a b")...)), sets("a"), sets("a"), "a", "b", 2, []int{2, 0}},
		{allOf(persons("b a")...), sets("a b"), sets("a", "b"), "a b", "", 1, []int{1, 1}},
		{anyOf(persons("b a")...), sets("a", "b"), sets("a b"), "", "", 3, []int{1, 1}},
		{needless(), sets(""), nil, "", "", 1, nil},
		{never(), nil, sets(""), "", "", 0, nil},
		{someOf(0, "a b"), sets(""), nil, "", "a b", 4, []int{0, 0}},
		{someOf(3, "a b"), nil, sets(""), "a b", "a b", 0, []int{0, 0}},
		{sumOf(0, nil), sets(""), nil, "", "", 1, nil},
		{sumOf(1, nil), nil, sets(""), "", "", 0, nil},
		{allOf(person("a"), never()), nil, sets(""), "a", "a", 0, []int{0}},
		{anyOf(person("a"), needless()), sets(""), nil, "", "a", 2, []int{0}},
		{sumOf(2, []int{1, 1, 1}, persons("a b a")...), sets("a"), sets("a"), "a", "b", 2, []int{2, 0}},
		{anyOf(allOf(persons("a b c")...), allOf(persons("b d")...), allOf(persons("a e")...)), sets("a b c", "a e", "b d"), sets("a b", "a d", "b e", "c d e"), "", "", 15, []int{7, 7, 1, 5, 5}},
		// a longer set comes before a shorter one that is greater, and names are compared by bytes
		{anyOf(person("b"), allOf(persons("a B a-b")...)), sets("B a a-b", "b"), sets("B b", "a b", "a-b b"), "", "", 9, []int{1, 1, 1, 7}},
	}
}

// P6.3: the smallest sets in their order.
func TestSmallest(t *testing.T) {
	for _, x := range exactExamples() {
		l, e := consent.Smallest(x.r)
		check(t, "Smallest of "+text(x.r, 0), l, e, x.smallest)
		l, e = consent.Refusals(x.r)
		check(t, "Refusals of "+text(x.r, 0), l, e, x.refusals)
	}
}

// P6.4: indispensable and idle people, and counts.
func TestPeopleOfRules(t *testing.T) {
	for _, x := range exactExamples() {
		l, e := consent.Indispensable(x.r)
		check(t, "Indispensable of "+text(x.r, 0), l, e, words(x.indispensable))
		l, e = consent.Idle(x.r)
		check(t, "Idle of "+text(x.r, 0), l, e, words(x.idle))
		n, counts, e := consent.Counts(x.r)
		check(t, "Counts of "+text(x.r, 0), counts, e, x.counts)
		check(t, "the number of sets of "+text(x.r, 0), n, e, x.enough)
	}
}

// combinations returns the sets of n of some people, in the order of lists of sets.
func combinations(names []string, n int) [][]string {
	if n == 0 {
		return [][]string{nil}
	}
	var l [][]string
	for i, name := range names {
		for _, rest := range combinations(names[i+1:], n-1) {
			l = append(l, with([]string{name}, rest...))
		}
	}
	return l
}

// P6.3, P6.4: exact questions of as many people as there may be.
func TestTwelvePeople(t *testing.T) {
	names := letters(12)
	binomials := []int{1, 12, 66, 220, 495, 792, 924, 792, 495, 220, 66, 12, 1}
	elevens := []int{1, 11, 55, 165, 330, 462, 462, 330, 165, 55, 11, 1, 0}
	total := 4096
	for need := range 13 {
		r := someOf(need, strings.Join(names, " "))
		smallest, e := consent.Smallest(r)
		check(t, "Smallest", smallest, e, combinations(names, need))
		check(t, "how many", len(smallest), e, binomials[need])
		if need > 0 {
			refusals, e := consent.Refusals(r)
			check(t, "Refusals", refusals, e, combinations(names, 13-need))
			n, counts, e := consent.Counts(r)
			check(t, "Counts", counts, e, repeat(12, always(elevens[need-1])))
			check(t, "how many are enough", n, e, total)
		}
		total -= binomials[need]
	}
}

// P6.1, P6.3 to P6.6, P6.9: exact questions are not asked of more people; other ones are.
func TestThirteenPeople(t *testing.T) {
	names := letters(13)
	for _, r := range []api.Rule{someOf(3, strings.Join(names, " ")), allOf(someOf(1, strings.Join(names, " ")), never()), anyOf(persons(strings.Join(letters(39), " "))...)} {
		for _, x := range allAsked() {
			results, e := x.ask(r)
			switch {
			case x.exact:
				checkError(t, x.what, results, e, api.ErrLarge)
			case x.what == "Put into" && e == api.ErrMissing:
			case x.what == "Put of" && e == api.ErrLarge && len(r.Parts) == 39:
			case x.what == "FirstDay" && e == api.ErrNone:
			case e != api.OK:
				t.Error(x.what, results, e)
			}
		}
	}
	twice := allOf(persons(strings.Join(with(names[:12], names[:12]...), " "))...)
	l, e := consent.Smallest(twice)
	check(t, "Smallest of twelve who stand twice", l, e, [][]string{names[:12]})
}

// P6.6: two rules may have more than twelve people together.
func TestTwoRulesOfMany(t *testing.T) {
	names := letters(24)
	first, second := allOf(persons(strings.Join(names[:12], " "))...), anyOf(persons(strings.Join(names[12:], " "))...)
	set, is, e := consent.Implies(first, second)
	check(t, "Implies", set, e, names[:12])
	check(t, "whether it does", is, e, false)
	set, is, e = consent.Implies(second, first)
	check(t, "Implies", set, e, names[12:13])
	check(t, "whether it does", is, e, false)
	is, e = consent.Same(first, second)
	check(t, "Same", is, e, false)
	set, is, e = consent.Implies(allOf(first.Parts...), anyOf(person(names[11]), person(names[20])))
	check(t, "Implies", set, e, []string(nil))
	check(t, "whether it does", is, e, true)
}

// P6.6: examples of comparisons.
func TestImplies(t *testing.T) {
	rules := []struct {
		a, b   api.Rule
		is     bool
		missed string
	}{
		{abc(), anyOf(persons("a b")...), true, ""},
		{abc(), allOf(persons("a b")...), false, "a"},
		{abc(), person("a"), false, "b c"},
		{person("a"), abc(), true, ""},
		{allOf(persons("b c")...), abc(), true, ""},
		{person("b"), abc(), false, "b"},
		{someOf(2, "a b c"), abc(), true, ""},
		{abc(), someOf(2, "a b c"), false, "a"},
		{someOf(2, "a b c"), anyOf(persons("b c")...), true, ""},
		{someOf(2, "a b c d"), anyOf(person("a"), allOf(persons("b c")...)), false, "b d"},
		{someOf(2, "d c b a"), someOf(2, "b c d e"), false, "a b"},
		{never(), abc(), true, ""},
		{abc(), never(), false, "a"},
		{never(), never(), true, ""},
		{needless(), abc(), false, ""},
		{needless(), needless(), true, ""},
		{abc(), needless(), true, ""},
		{someOf(3, "a b"), person("z"), true, ""},
		{anyOf(person("a"), allOf(persons("a b")...)), person("a"), true, ""},
		{person("a"), anyOf(person("a"), allOf(persons("a b")...)), true, ""},
		{person("a"), person("A"), false, "a"},
	}
	for _, x := range rules {
		missed, is, e := consent.Implies(x.a, x.b)
		what := text(x.a, 0) + " and " + text(x.b, 0)
		check(t, what, missed, e, words(x.missed))
		check(t, what, is, e, x.is)
		_, back, _ := consent.Implies(x.b, x.a)
		same, e := consent.Same(x.a, x.b)
		check(t, "Same of "+what, same, e, x.is && back)
	}
	is, e := consent.Same(anyOf(person("a"), allOf(persons("a b")...)), person("a"))
	check(t, "Same", is, e, true)
	is, e = consent.Same(abc(), sumOf(2, []int{1, 2, 1}, persons("b a c")...))
	check(t, "Same", is, e, true)
	is, e = consent.Same(abc(), anyOf(persons("a b")...))
	check(t, "Same", is, e, false)
	is, e = consent.Same(anyOf(persons("a b")...), abc())
	check(t, "Same", is, e, false)
}

// P6.6: the errors of both rules come before that for too many people, and the first
// rule's error before the second one's.
func TestErrorsOfTwoRules(t *testing.T) {
	large := someOf(3, strings.Join(letters(13), " "))
	for _, x := range wrongNodes() {
		for _, y := range wrongNodes() {
			set, is, e := consent.Implies(x.r, y.r)
			checkError(t, "Implies", []any{set, is}, e, x.e)
			is, e = consent.Same(x.r, y.r)
			checkError(t, "Same", []any{is}, e, x.e)
		}
		for _, pair := range [][2]api.Rule{{x.r, large}, {large, x.r}} {
			set, is, e := consent.Implies(pair[0], pair[1])
			checkError(t, "Implies", []any{set, is}, e, x.e)
			is, e = consent.Same(pair[0], pair[1])
			checkError(t, "Same", []any{is}, e, x.e)
		}
	}
	// too many people also where fewer would do
	set, is, e := consent.Implies(never(), large)
	checkError(t, "Implies", []any{set, is}, e, api.ErrLarge)
	set, is, e = consent.Implies(large, needless())
	checkError(t, "Implies", []any{set, is}, e, api.ErrLarge)
	is, e = consent.Same(large, large)
	checkError(t, "Same", []any{is}, e, api.ErrLarge)
}

// P6.4: who is indispensable of a rule that is never enough, and who is idle of it.
func TestNever(t *testing.T) {
	names := letters(12)
	r := allOf(anyOf(persons(strings.Join(names, " "))...), never())
	for _, ask := range []func(api.Rule) ([]string, api.Errno){consent.Indispensable, consent.Idle} {
		l, e := ask(r)
		check(t, "people of never", l, e, names)
	}
	l, e := consent.Smallest(r)
	check(t, "Smallest of never", l, e, [][]string(nil))
	l, e = consent.Refusals(r)
	check(t, "Refusals of never", l, e, [][]string{nil})
	n, counts, e := consent.Counts(r)
	check(t, "Counts of never", counts, e, make([]int, 12))
	check(t, "how many", n, e, 0)
	always := anyOf(r, needless())
	l, e = consent.Smallest(always)
	check(t, "Smallest of always", l, e, [][]string{nil})
	n, _, e = consent.Counts(always)
	check(t, "how many", n, e, 4096)
	if none, e := consent.Indispensable(always); len(none) != 0 || e != api.OK || !slices.IsSorted(names) {
		t.Error(none, e)
	}
}
