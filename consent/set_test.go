package consent_test

import (
	"strings"
	"testing"

	"mortsafe/api"
	"mortsafe/consent"
)

// ofSets are examples of sets that are enough, or block.
var ofSets = []struct {
	r                  api.Rule
	set                string
	isEnough, isBlocks bool
}{
	{abc(), "", false, false},
	{abc(), "a", true, false},
	{abc(), "b", false, false},
	{abc(), "a b", true, true},
	{abc(), "a c", true, true},
	{abc(), "b c", true, false},
	{abc(), "a b c", true, true},
	{abc(), "x y z", false, false},
	{abc(), "a c z", true, true},
	{abc(), "B C b", false, false},
	{person("a"), "a", true, true},
	{person("a"), "b", false, false},
	{needless(), "", true, false},
	{needless(), "a", true, false},
	{never(), "", false, true},
	{never(), "a", false, true},
	{sumOf(0, nil), "", true, false},
	{sumOf(1, nil), "", false, true},
	{someOf(0, "a b"), "a b", true, false},
	{someOf(3, "a b"), "a b", false, true},
	{someOf(2, "a b c"), "a", false, false},
	{someOf(2, "a b c"), "a c", true, true},
	{sumOf(4, []int{3, 2, 1}, persons("a b c")...), "b c", false, true},
	{sumOf(4, []int{3, 2, 1}, persons("a b c")...), "a c", true, true},
	{sumOf(4, []int{3, 2, 1}, persons("a b c")...), "a", false, true},
	{sumOf(2, []int{1, 1}, persons("a a")...), "a", true, true},
	{sumOf(5, []int{2, 3}, allOf(persons("a b")...), anyOf(persons("b c")...)), "a b", true, true},
	{sumOf(5, []int{2, 3}, allOf(persons("a b")...), anyOf(persons("b c")...)), "a c", false, true},
	{sumOf(50000, []int{1000}, person("a")), "a", false, true},
	{allOf(person("a"), person("a")), "a", true, true},
	{allOf(person("a"), anyOf(person("a"), person("b"))), "b", false, false},
}

// P6.2: which sets are enough, and which block.
func TestSets(t *testing.T) {
	for _, x := range ofSets {
		is, e := consent.Enough(x.r, words(x.set))
		check(t, text(x.r, 0)+" with "+x.set, is, e, x.isEnough)
		is, e = consent.Blocks(x.r, words(x.set))
		check(t, text(x.r, 0)+" without "+x.set, is, e, x.isBlocks)
	}
}

// P6.2: a rule may have more people than an exact question can, and so may a set.
func TestSetsOfMany(t *testing.T) {
	names := letters(40)
	r := someOf(20, strings.Join(names[:39], " "))
	for n := range 41 {
		is, e := consent.Enough(r, names[:n])
		check(t, "Enough of many", is, e, n >= 20)
		is, e = consent.Blocks(r, names[:n])
		check(t, "Blocks of many", is, e, n >= 20)
	}
}

// wrongList is a list of people with its error.
type wrongList struct {
	l []string
	e api.Errno
}

func wrongLists() []wrongList {
	names := letters(41)
	l := []wrongList{
		{words("b a"), api.ErrOrder},
		{words("a a"), api.ErrOrder},
		{words("a b c c"), api.ErrOrder},
		{words("a B"), api.ErrOrder},
		{words("b a 1"), api.ErrOrder},
		{words("b 1 a"), api.ErrName},
		{words("b 1"), api.ErrName},
		{with(words("a"), ""), api.ErrName},
		{names, api.ErrLarge},
		{with(names[:40], "1"), api.ErrLarge},
		{with(words("1 b a"), names[:38]...), api.ErrLarge},
		{make([]string, 41), api.ErrLarge},
		{make([]string, 40), api.ErrName},
		{make([]string, 1<<20), api.ErrLarge},
	}
	for _, name := range wrongNames {
		l = append(l, wrongList{[]string{name}, api.ErrName}, wrongList{[]string{"a", name, "b"}, api.ErrName})
	}
	return l
}

// P6.2: the errors of a list of people, behind those of the rule.
func TestWrongLists(t *testing.T) {
	for _, x := range wrongLists() {
		is, e := consent.Enough(abc(), x.l)
		checkError(t, "Enough", []any{is}, e, x.e)
		is, e = consent.Blocks(abc(), x.l)
		checkError(t, "Blocks", []any{is}, e, x.e)
		// also where no list can matter
		is, e = consent.Enough(needless(), x.l)
		checkError(t, "Enough", []any{is}, e, x.e)
		is, e = consent.Blocks(never(), x.l)
		checkError(t, "Blocks", []any{is}, e, x.e)
		for _, w := range wrongNodes() {
			is, e = consent.Enough(w.r, x.l)
			checkError(t, "Enough", []any{is}, e, w.e)
			is, e = consent.Blocks(w.r, x.l)
			checkError(t, "Blocks", []any{is}, e, w.e)
		}
	}
	is, e := consent.Enough(abc(), letters(40))
	check(t, "Enough of 40", is, e, false)
}
