package consent_test

import (
	"math"
	"math/rand"
	"reflect"
	"slices"
	"strconv"
	"strings"
	"testing"

	"mortsafe/api"
	"mortsafe/consent"
)

// extremes are numbers that no function may stumble over.
var extremes = []int{math.MinInt, math.MinInt + 1, -1, math.MaxInt - 1, math.MaxInt}

// wrongNames are texts that are no names.
var wrongNames = []string{"", "-", "1", "-a", "1a", "a b", " ", "a ", " a", "a\n", "a.", "a_b", "a(", "é", "aé", "a\x00", "\xff", "abcdefghijklm"}

// rightNames are names.
var rightNames = []string{"a", "Z", "ann", "a-", "a1", "A-9-z", "abcdefghijkl", "all", "any", "of"}

func person(name string) api.Rule { return api.Rule{Person: name} }

// persons returns a person for each word of a text.
func persons(words string) []api.Rule {
	var l []api.Rule
	for _, name := range strings.Fields(words) {
		l = append(l, person(name))
	}
	return l
}

func allOf(parts ...api.Rule) api.Rule { return api.Rule{Kind: api.RuleAll, Parts: parts} }

func anyOf(parts ...api.Rule) api.Rule { return api.Rule{Kind: api.RuleAny, Parts: parts} }

// sumOf is a sum of parts with their weights.
func sumOf(need int, weights []int, parts ...api.Rule) api.Rule {
	return api.Rule{Kind: api.RuleSum, Need: need, Weights: weights, Parts: parts}
}

// someOf is a sum of people who have the weight 1 each.
func someOf(need int, words string) api.Rule {
	l := persons(words)
	return sumOf(need, repeat(len(l), always(1)), l...)
}

// abc is the rule R of the chapter's examples.
func abc() api.Rule { return anyOf(person("a"), allOf(person("b"), person("c"))) }

// never and needless are rules without people.
func never() api.Rule { return anyOf() }

func needless() api.Rule { return allOf() }

func words(text string) []string { return strings.Fields(text) }

// sets are lists of people, each in one text.
func sets(texts ...string) [][]string {
	var l [][]string
	for _, text := range texts {
		l = append(l, words(text))
	}
	return l
}

// letters returns the first names of some length, ascending.
func letters(n int) []string {
	return repeat(n, func(i int) string { return string(rune('a'+i/26)) + string(rune('a'+i%26)) })
}

func act(day, kind int, name string) api.Act { return api.Act{Day: day, Kind: kind, Person: name} }

func sign(day int, name string) api.Act { return act(day, api.ActSign, name) }

func unsign(day int, name string) api.Act { return act(day, api.ActUnsign, name) }

func refuse(day int, name string) api.Act { return act(day, api.ActRefuse, name) }

func relent(day int, name string) api.Act { return act(day, api.ActRelent, name) }

func acts(l ...api.Act) []api.Act { return l }

func frac(num, den int) api.Frac { return api.Frac{Num: num, Den: den} }

// text returns how a rule is written that a function returned, or its error.
func text(r api.Rule, e api.Errno) string {
	s, wrong := consent.Print(r)
	if e != api.OK || wrong != api.OK {
		return "error " + strconv.Itoa(int(e)) + " " + strconv.Itoa(int(wrong))
	}
	return s
}

// check compares a result, and expects no error.
func check(t *testing.T, what string, got any, e api.Errno, want any) {
	t.Helper()
	if !equal(got, want) || e != api.OK {
		t.Errorf("%s: %v %d, not %v", what, got, e, want)
	}
}

// checkError compares an error, beside which there must be no result.
func checkError(t *testing.T, what string, results []any, e, want api.Errno) {
	t.Helper()
	if e != want || slices.ContainsFunc(results, isSomething) {
		t.Errorf("%s: %v %d, not %d", what, results, e, want)
	}
}

// equal compares two values, of which nil and empty lists are the same.
func equal(a, b any) bool { return alike(reflect.ValueOf(a), reflect.ValueOf(b)) }

func alike(a, b reflect.Value) bool {
	if a.Type() != b.Type() {
		return false
	}
	switch a.Kind() {
	case reflect.Slice:
		if a.Len() != b.Len() {
			return false
		}
		for i := range a.Len() {
			if !alike(a.Index(i), b.Index(i)) {
				return false
			}
		}
		return true
	case reflect.Struct:
		for i := range a.NumField() {
			if !alike(a.Field(i), b.Field(i)) {
				return false
			}
		}
		return true
	}
	return a.Interface() == b.Interface()
}

// isSomething tells whether a result is neither a zero value nor an empty list.
func isSomething(result any) bool {
	return !equal(result, reflect.Zero(reflect.TypeOf(result)).Interface())
}

// with returns a list with something else behind it, in memory of its own.
func with[T any](l []T, further ...T) []T { return slices.Concat(l, further) }

func repeat[T any](n int, what func(i int) T) []T {
	var l []T
	for i := range n {
		l = append(l, what(i))
	}
	return l
}

// always returns a function that returns one thing.
func always[T any](x T) func(int) T { return func(int) T { return x } }

func pickOne[T any](r *rand.Rand, l []T) T { return l[r.Intn(len(l))] }

// asked is a function of a rule, with other arguments that are right.
type asked struct {
	what  string
	exact bool
	ask   func(r api.Rule) ([]any, api.Errno)
}

// results parts what a function returned from its error.
func results(l ...any) ([]any, api.Errno) {
	return l[:len(l)-1], l[len(l)-1].(api.Errno)
}

// allAsked are all functions of a rule.
func allAsked() []asked {
	signed, refused, l := words("a x"), words("b y"), acts(refuse(1, "a"), sign(2, "b"), sign(3, "c"))
	return []asked{
		{"CheckRule", false, func(r api.Rule) ([]any, api.Errno) { return results(consent.CheckRule(r)) }},
		{"People", false, func(r api.Rule) ([]any, api.Errno) { return results(consent.People(r)) }},
		{"Enough", false, func(r api.Rule) ([]any, api.Errno) { return results(consent.Enough(r, signed)) }},
		{"Blocks", false, func(r api.Rule) ([]any, api.Errno) { return results(consent.Blocks(r, refused)) }},
		{"Smallest", true, func(r api.Rule) ([]any, api.Errno) { return results(consent.Smallest(r)) }},
		{"Refusals", true, func(r api.Rule) ([]any, api.Errno) { return results(consent.Refusals(r)) }},
		{"Indispensable", true, func(r api.Rule) ([]any, api.Errno) { return results(consent.Indispensable(r)) }},
		{"Idle", true, func(r api.Rule) ([]any, api.Errno) { return results(consent.Idle(r)) }},
		{"Dual", false, func(r api.Rule) ([]any, api.Errno) { return results(consent.Dual(r)) }},
		{"Normal", true, func(r api.Rule) ([]any, api.Errno) { return results(consent.Normal(r)) }},
		{"Implies to", true, func(r api.Rule) ([]any, api.Errno) { return results(consent.Implies(abc(), r)) }},
		{"Implies from", true, func(r api.Rule) ([]any, api.Errno) { return results(consent.Implies(r, abc())) }},
		{"Same of the first", true, func(r api.Rule) ([]any, api.Errno) { return results(consent.Same(r, abc())) }},
		{"Same of the second", true, func(r api.Rule) ([]any, api.Errno) { return results(consent.Same(abc(), r)) }},
		{"Given", false, func(r api.Rule) ([]any, api.Errno) { return results(consent.Given(r, signed, refused)) }},
		{"Put into", false, func(r api.Rule) ([]any, api.Errno) { return results(consent.Put(r, "a", abc())) }},
		{"Put of", false, func(r api.Rule) ([]any, api.Errno) { return results(consent.Put(abc(), "a", r)) }},
		{"Counts", true, func(r api.Rule) ([]any, api.Errno) { return results(consent.Counts(r)) }},
		{"State", true, func(r api.Rule) ([]any, api.Errno) { return results(consent.State(r, l, 5)) }},
		{"FirstDay", false, func(r api.Rule) ([]any, api.Errno) { return results(consent.FirstDay(r, l)) }},
		{"Print", false, func(r api.Rule) ([]any, api.Errno) { return results(consent.Print(r)) }},
	}
}
