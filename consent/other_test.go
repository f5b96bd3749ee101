package consent_test

import (
	"slices"
	"strings"
	"testing"

	"mortsafe/api"
	"mortsafe/consent"
)

// P6.5: examples of duals.
func TestDual(t *testing.T) {
	rules := []struct{ r, want api.Rule }{
		{person("a"), person("a")},
		{abc(), allOf(person("a"), anyOf(persons("b c")...))},
		{allOf(persons("c b a b")...), anyOf(persons("c b a b")...)},
		{needless(), never()},
		{never(), needless()},
		{sumOf(4, []int{3, 2, 1}, persons("c b a")...), sumOf(3, []int{3, 2, 1}, persons("c b a")...)},
		{sumOf(0, []int{3, 2}, persons("a b")...), sumOf(6, []int{3, 2}, persons("a b")...)},
		{sumOf(1, []int{3, 2}, persons("a b")...), sumOf(5, []int{3, 2}, persons("a b")...)},
		{sumOf(5, []int{3, 2}, persons("a b")...), sumOf(1, []int{3, 2}, persons("a b")...)},
		{sumOf(6, []int{3, 2}, persons("a b")...), sumOf(0, []int{3, 2}, persons("a b")...)},
		{sumOf(7, []int{3, 2}, persons("a b")...), sumOf(0, []int{3, 2}, persons("a b")...)},
		{sumOf(50000, []int{1000}, person("a")), sumOf(0, []int{1000}, person("a"))},
		{sumOf(0, nil), sumOf(1, nil)},
		{sumOf(1, nil), sumOf(0, nil)},
		{sumOf(0, repeat(39, always(1000)), many(api.RuleAny, 39).Parts...), sumOf(39001, repeat(39, always(1000)), many(api.RuleAny, 39).Parts...)},
		{sumOf(2, []int{4, 5}, allOf(person("a"), never()), sumOf(1, []int{7}, anyOf(person("b")))), sumOf(8, []int{4, 5}, anyOf(person("a"), needless()), sumOf(7, []int{7}, allOf(person("b"))))},
	}
	for _, x := range rules {
		d, e := consent.Dual(x.r)
		check(t, "Dual of "+text(x.r, 0), d, e, x.want)
	}
}

// P6.5: examples of normal rules.
func TestNormal(t *testing.T) {
	rules := []struct{ r, want api.Rule }{
		{abc(), anyOf(allOf(person("a")), allOf(persons("b c")...))},
		{person("a"), anyOf(allOf(person("a")))},
		{someOf(2, "c b a"), anyOf(allOf(persons("a b")...), allOf(persons("a c")...), allOf(persons("b c")...))},
		{allOf(persons("b a b")...), anyOf(allOf(persons("a b")...))},
		{anyOf(persons("b a b")...), anyOf(allOf(person("a")), allOf(person("b")))},
		{anyOf(person("b"), allOf(persons("a c")...)), anyOf(allOf(persons("a c")...), allOf(person("b")))},
		{needless(), anyOf(allOf())},
		{sumOf(0, nil), anyOf(allOf())},
		{someOf(0, "a b"), anyOf(allOf())},
		{never(), anyOf()},
		{someOf(3, "a b"), anyOf()},
	}
	for _, x := range rules {
		n, e := consent.Normal(x.r)
		check(t, "Normal of "+text(x.r, 0), n, e, x.want)
	}
}

// P6.5: a normal rule may have as many nodes as any rule, and no more.
func TestLargeNormal(t *testing.T) {
	twelve := allOf(anyOf(persons("a b c")...), anyOf(persons("d e f g")...))
	n, e := consent.Normal(anyOf(twelve, allOf(persons("h i")...)))
	if len(n.Parts) != 13 || e != api.OK || consent.CheckRule(n) != api.OK {
		t.Error(text(n, e))
	}
	n, e = consent.Normal(anyOf(twelve, allOf(persons("h i j")...)))
	checkError(t, "Normal", []any{n}, e, api.ErrLarge)
	n, e = consent.Normal(someOf(6, strings.Join(letters(12), " ")))
	checkError(t, "Normal", []any{n}, e, api.ErrLarge)
}

// P6.5: examples of rules that are left.
func TestGiven(t *testing.T) {
	rules := []struct {
		r               api.Rule
		signed, refused string
		want            api.Rule
	}{
		{abc(), "b", "a", anyOf(never(), allOf(needless(), person("c")))},
		{abc(), "", "", abc()},
		{abc(), "x z", "y", abc()},
		{abc(), "a b c", "", anyOf(needless(), allOf(needless(), needless()))},
		{abc(), "", "a b c", anyOf(never(), allOf(never(), never()))},
		{person("a"), "a", "b", needless()},
		{person("a"), "b", "a", never()},
		{person("a"), "A", "b", person("a")},
		{needless(), "a", "b", needless()},
		{sumOf(4, []int{3, 2, 1}, persons("a b a")...), "a", "c", sumOf(4, []int{3, 2, 1}, needless(), person("b"), needless())},
		{sumOf(4, []int{3, 2}, anyOf(persons("a b")...), sumOf(0, nil)), "", "b", sumOf(4, []int{3, 2}, anyOf(person("a"), never()), sumOf(0, nil))},
	}
	for _, x := range rules {
		r, e := consent.Given(x.r, words(x.signed), words(x.refused))
		check(t, "Given "+text(x.r, 0), r, e, x.want)
	}
	names := letters(80)
	r, e := consent.Given(abc(), names[:40], names[40:])
	check(t, "Given forty", r, e, abc())
}

// P6.5: the errors of Given, in their order.
func TestWrongGiven(t *testing.T) {
	for _, x := range wrongLists() {
		r, e := consent.Given(abc(), x.l, words("b"))
		checkError(t, "Given", []any{r}, e, x.e)
		r, e = consent.Given(abc(), words("b"), x.l)
		checkError(t, "Given", []any{r}, e, x.e)
		for _, y := range wrongLists() {
			r, e = consent.Given(abc(), x.l, y.l)
			checkError(t, "Given", []any{r}, e, x.e)
		}
		for _, w := range wrongNodes() {
			r, e = consent.Given(w.r, x.l, x.l)
			checkError(t, "Given", []any{r}, e, w.e)
		}
	}
	for _, w := range wrongNodes() {
		r, e := consent.Given(w.r, words("b"), words("b"))
		checkError(t, "Given", []any{r}, e, w.e)
	}
	for _, lists := range [][2]string{{"b", "b"}, {"a b", "b c"}, {"a b c", "c"}, {"a", "a b c"}, {"c", "a b c"}} {
		r, e := consent.Given(abc(), words(lists[0]), words(lists[1]))
		checkError(t, "Given", []any{r}, e, api.ErrClash)
	}
}

// P6.5: examples of rules that are put in place of people.
func TestPut(t *testing.T) {
	rules := []struct {
		r    api.Rule
		name string
		by   api.Rule
		want api.Rule
	}{
		{abc(), "c", anyOf(persons("c d")...), anyOf(person("a"), allOf(person("b"), anyOf(persons("c d")...)))},
		{abc(), "a", person("z"), anyOf(person("z"), allOf(persons("b c")...))},
		{abc(), "a", person("a"), abc()},
		{person("a"), "a", abc(), abc()},
		{allOf(persons("a b a")...), "a", allOf(persons("b a")...), allOf(allOf(persons("b a")...), person("b"), allOf(persons("b a")...))},
		{allOf(persons("a b")...), "a", person("b"), allOf(persons("b b")...)},
		{allOf(persons("a b")...), "b", person("a"), allOf(persons("a a")...)},
		{sumOf(5, []int{2, 3}, persons("a b")...), "b", sumOf(4, []int{1}, person("b")), sumOf(5, []int{2, 3}, person("a"), sumOf(4, []int{1}, person("b")))},
		{anyOf(sumOf(5, []int{2}, person("a")), needless()), "a", never(), anyOf(sumOf(5, []int{2}, never()), needless())},
	}
	for _, x := range rules {
		r, e := consent.Put(x.r, x.name, x.by)
		check(t, "Put into "+text(x.r, 0), r, e, x.want)
	}
}

// P6.5: the errors of Put, in their order.
func TestWrongPut(t *testing.T) {
	for _, w := range wrongNodes() {
		for _, name := range []string{"a", "1", "z"} {
			r, e := consent.Put(w.r, name, api.Rule{Kind: 9})
			checkError(t, "Put", []any{r}, e, w.e)
			r, e = consent.Put(w.r, name, abc())
			checkError(t, "Put", []any{r}, e, w.e)
		}
		for _, name := range []string{"a", "z"} {
			r, e := consent.Put(abc(), name, w.r)
			checkError(t, "Put", []any{r}, e, w.e)
		}
		r, e := consent.Put(abc(), "1", w.r)
		checkError(t, "Put", []any{r}, e, api.ErrName)
	}
	for _, name := range wrongNames {
		r, e := consent.Put(abc(), name, abc())
		checkError(t, "Put", []any{r}, e, api.ErrName)
	}
	for _, name := range []string{"d", "A", "aa"} {
		r, e := consent.Put(abc(), name, many(api.RuleAny, 39))
		checkError(t, "Put", []any{r}, e, api.ErrMissing)
	}
	r, e := consent.Put(needless(), "a", abc())
	checkError(t, "Put", []any{r}, e, api.ErrMissing)
}

// P6.5: the result of Put may have as many nodes as any rule, and no more.
func TestLargePut(t *testing.T) {
	for _, x := range []struct {
		r    api.Rule
		by   int
		want api.Errno
	}{
		{abc(), 35, api.OK},
		{abc(), 36, api.ErrLarge},
		{many(api.RuleAny, 13), 2, api.OK},
		{many(api.RuleAny, 13), 3, api.ErrLarge},
		{many(api.RuleAny, 19), 1, api.OK},
		{many(api.RuleAny, 20), 1, api.ErrLarge},
		{many(api.RuleAny, 39), 0, api.OK},
		{many(api.RuleAll, 39), 39, api.ErrLarge},
		{person("a"), 39, api.OK},
	} {
		by := many(api.RuleSum, x.by)
		r, e := consent.Put(x.r, "a", by)
		if x.want != api.OK {
			checkError(t, "Put", []any{r}, e, x.want)
		} else if e != api.OK || consent.CheckRule(r) != api.OK {
			t.Error(x.by, text(r, e))
		}
	}
	long := persons(strings.Join(letters(38), " "))
	r, e := consent.Put(allOf(with(long, person("z"))...), "z", person("y"))
	check(t, "Put into forty", r, e, allOf(with(slices.Clone(long), person("y"))...))
}
