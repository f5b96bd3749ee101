package consent_test

import (
	"math/big"
	"math/rand"
	"slices"
	"testing"

	"mortsafe/api"
	"mortsafe/consent"
)

// randomSet is some of the letters, most of which are people of random rules.
func randomSet(r *rand.Rand) []string {
	return slices.DeleteFunc(words("a b c d e f g h x"), func(string) bool { return r.Intn(2) == 0 })
}

// The examples of the chapter.
func TestExamples(t *testing.T) {
	r, e := consent.Parse("any(a, all(b, c))")
	check(t, "R", r, e, abc())
	smallest, e := consent.Smallest(r)
	check(t, "example 1", smallest, e, sets("a", "b c"))
	refusals, e := consent.Refusals(r)
	check(t, "example 1", refusals, e, sets("a b", "a c"))
	n, counts, e := consent.Counts(r)
	check(t, "example 2", counts, e, []int{3, 1, 1})
	check(t, "example 2", n, e, 5)
	check(t, "example 3", text(consent.Dual(r)), 0, "all(a, any(b, c))")
	some, e := consent.Parse("2 of (1 a, 1 b, 1 c)")
	check(t, "example 4", some, e, someOf(2, "a b c"))
	check(t, "example 5", text(consent.OfShares(words("a b c"), fracs(1, 2, 1, 3, 1, 6), frac(1, 2))), 0, "4 of (3 a, 2 b, 1 c)")
	n, set, e := consent.State(r, example(), 9)
	check(t, "example 6", set, e, words("b c"))
	check(t, "example 6", n, e, 1)
	blocked := acts(sign(5, "b"), refuse(7, "a"), refuse(9, "c"))
	n, set, e = consent.State(r, blocked, 9)
	check(t, "example 6", set, e, words("a c"))
	check(t, "example 6", n, e, 2)
	check(t, "example 7", text(consent.Given(r, words("b"), words("a"))), 0, "any(any(), all(all(), c))")
}

// P6.1, P6.2: random rules and sets.
func TestRandomSets(t *testing.T) {
	r := rand.New(rand.NewSource(3))
	answers := map[[2]bool]int{}
	for range 20000 {
		x, set := randomRule(r, 1+r.Intn(40), 8), randomSet(r)
		l, e := consent.People(x)
		if !equal(l, modelPeople(x)) || e != api.OK {
			t.Fatal(text(x, 0), l, e)
		}
		is, e := consent.Enough(x, set)
		blocks, wrong := consent.Blocks(x, set)
		if is != modelEnough(x, set) || blocks != modelBlocks(x, set) || e != api.OK || wrong != api.OK {
			t.Fatal(text(x, 0), set, is, blocks, e, wrong)
		}
		answers[[2]bool{is, blocks}]++
	}
	if len(answers) != 4 {
		t.Error(answers)
	}
}

// P6.3, P6.4: random rules.
func TestRandomQuestions(t *testing.T) {
	r := rand.New(rand.NewSource(4))
	sizes := map[int]int{}
	for range 3000 {
		x := randomRule(r, 1+r.Intn(16), 6)
		people := modelPeople(x)
		enough := func(set []string) bool { return modelEnough(x, set) }
		blocks := func(set []string) bool { return modelBlocks(x, set) }
		smallest, e := consent.Smallest(x)
		refusals, wrong := consent.Refusals(x)
		if !equal(smallest, modelSmallest(people, enough)) || !equal(refusals, modelSmallest(people, blocks)) || e != api.OK || wrong != api.OK {
			t.Fatal(text(x, 0), smallest, refusals, e, wrong)
		}
		sizes[len(smallest)]++
		n, counts, e := consent.Counts(x)
		isNot := func(set []string) bool { return !enough(set) }
		want := repeat(len(people), func(i int) int { return modelDecides(x, people[i]) })
		if n != len(slices.DeleteFunc(subsets(people), isNot)) || !equal(counts, want) || e != api.OK {
			t.Fatal(text(x, 0), n, counts, e)
		}
		indispensable, e := consent.Indispensable(x)
		idle, wrong := consent.Idle(x)
		decides := func(name string) bool { return modelDecides(x, name) > 0 }
		isLeft := func(name string) bool { return !blocks([]string{name}) }
		if !equal(indispensable, slices.DeleteFunc(slices.Clone(people), isLeft)) || !equal(idle, slices.DeleteFunc(slices.Clone(people), decides)) || e != api.OK || wrong != api.OK {
			t.Fatal(text(x, 0), indispensable, idle, e, wrong)
		}
	}
	if len(sizes) < 6 {
		t.Error(sizes)
	}
}

// P6.11: duality.
func TestDuality(t *testing.T) {
	r := rand.New(rand.NewSource(5))
	for range 3000 {
		x := randomRule(r, 1+r.Intn(20), 7)
		dual, e := consent.Dual(x)
		if e != api.OK || consent.CheckRule(dual) != api.OK {
			t.Fatal(text(x, 0), dual, e)
		}
		smallest, _ := consent.Smallest(x)
		refusals, _ := consent.Refusals(x)
		ofDual, e := consent.Smallest(dual)
		if !equal(ofDual, refusals) || e != api.OK {
			t.Fatal(text(x, 0), text(dual, 0), ofDual, refusals, e)
		}
		ofDual, e = consent.Refusals(dual)
		if !equal(ofDual, smallest) || e != api.OK {
			t.Fatal(text(x, 0), text(dual, 0), ofDual, smallest, e)
		}
		for _, a := range smallest {
			for _, b := range refusals {
				if len(less(a, b)) == len(a) {
					t.Fatal(text(x, 0), a, b)
				}
			}
		}
		for range 10 {
			set := randomSet(r)
			is, _ := consent.Enough(dual, set)
			blocks, _ := consent.Blocks(x, set)
			enough, _ := consent.Enough(x, set)
			meets := !slices.ContainsFunc(refusals, func(other []string) bool { return len(less(other, set)) == len(other) })
			if is != blocks || enough != meets {
				t.Fatal(text(x, 0), set, is, blocks, enough, meets)
			}
		}
		twice, e := consent.Dual(dual)
		if is, wrong := consent.Same(twice, x); !is || e != api.OK || wrong != api.OK {
			t.Fatal(text(x, 0), text(twice, e), is, wrong)
		}
	}
}

// P6.12: normal rules are the same as the rules, and equal for rules that are the same.
func TestRandomNormal(t *testing.T) {
	r := rand.New(rand.NewSource(6))
	same := 0
	for range 3000 {
		x, y := randomRule(r, 1+r.Intn(6), 3), randomRule(r, 1+r.Intn(6), 3)
		first, e := consent.Normal(x)
		second, wrong := consent.Normal(y)
		if e != api.OK || wrong != api.OK {
			t.Fatal(text(x, 0), text(y, 0), e, wrong)
		}
		if is, e := consent.Same(first, x); !is || e != api.OK {
			t.Fatal(text(x, 0), text(first, 0), is, e)
		}
		again, e := consent.Normal(first)
		check(t, "Normal of Normal", again, e, first)
		is, e := consent.Same(x, y)
		if is != equal(first, second) || e != api.OK {
			t.Fatal(text(x, 0), text(y, 0), is, e)
		}
		if is {
			same++
		}
	}
	if same < 100 {
		t.Error(same)
	}
}

// P6.6, P6.12: random comparisons.
func TestRandomImplies(t *testing.T) {
	r := rand.New(rand.NewSource(7))
	answers := map[[2]bool]int{}
	for range 4000 {
		x, y, z := randomRule(r, 1+r.Intn(8), 4), randomRule(r, 1+r.Intn(8), 5), randomRule(r, 1+r.Intn(8), 3)
		missed, is, e := consent.Implies(x, y)
		l := modelSmallest(modelPeople(x), func(set []string) bool { return modelEnough(x, set) })
		l = slices.DeleteFunc(l, func(set []string) bool { return modelEnough(y, set) })
		if is != (len(l) == 0) || !is && !equal(missed, l[0]) || is && len(missed) > 0 || e != api.OK {
			t.Fatal(text(x, 0), text(y, 0), missed, is, e)
		}
		all := subsets(words("a b c d e"))
		isMissed := func(set []string) bool { return modelEnough(x, set) && !modelEnough(y, set) }
		if is == slices.ContainsFunc(all, isMissed) {
			t.Fatal(text(x, 0), text(y, 0), is)
		}
		_, back, _ := consent.Implies(y, x)
		same, e := consent.Same(x, y)
		if same != (is && back) || e != api.OK {
			t.Fatal(text(x, 0), text(y, 0), same, e)
		}
		_, on, _ := consent.Implies(y, z)
		_, through, _ := consent.Implies(x, z)
		if is && on && !through {
			t.Fatal(text(x, 0), text(y, 0), text(z, 0))
		}
		answers[[2]bool{is, back}]++
	}
	if len(answers) != 4 {
		t.Error(answers)
	}
}

// P6.5, P6.12: rules that are left at random.
func TestRandomGiven(t *testing.T) {
	r := rand.New(rand.NewSource(8))
	for range 10000 {
		x, signed := randomRule(r, 1+r.Intn(20), 8), randomSet(r)
		refused := less(randomSet(r), signed)
		by := map[string]api.Rule{}
		for _, name := range signed {
			by[name] = needless()
		}
		for _, name := range refused {
			by[name] = never()
		}
		left, e := consent.Given(x, signed, refused)
		if !equal(left, modelPut(x, by)) || e != api.OK {
			t.Fatal(text(x, 0), signed, refused, text(left, e))
		}
		further := randomSet(r)
		together := slices.Compact(slices.Sorted(slices.Values(less(with(signed, further...), refused))))
		is, e := consent.Enough(left, further)
		want, wrong := consent.Enough(x, together)
		if is != want || e != api.OK || wrong != api.OK {
			t.Fatal(text(x, 0), signed, refused, further, is, want)
		}
	}
}

// P6.5: rules that are put in place of people at random.
func TestRandomPut(t *testing.T) {
	r := rand.New(rand.NewSource(9))
	errors := map[api.Errno]int{}
	for range 10000 {
		if t.Failed() {
			break
		}
		x, by, name := randomRule(r, 1+r.Intn(20), 4), randomRule(r, 1+r.Intn(20), 4), pickOne(r, words("a b c d"))
		want := modelPut(x, map[string]api.Rule{name: by})
		got, e := consent.Put(x, name, by)
		errors[e]++
		switch {
		case !slices.Contains(modelPeople(x), name):
			checkError(t, "Put", []any{got}, e, api.ErrMissing)
		case modelNodes(want) > api.MaxTree:
			checkError(t, "Put", []any{got}, e, api.ErrLarge)
		default:
			check(t, "Put", got, e, want)
		}
	}
	if len(errors) != 3 || errors[api.OK] < 2000 {
		t.Error(errors)
	}
}

// P6.4, P6.12: idle people have the count 0, indispensable ones are in all smallest sets.
func TestIdleAndIndispensable(t *testing.T) {
	r := rand.New(rand.NewSource(10))
	found := map[[2]bool]int{}
	for range 3000 {
		x := randomRule(r, 1+r.Intn(16), 6)
		people, _ := consent.People(x)
		smallest, _ := consent.Smallest(x)
		idle, _ := consent.Idle(x)
		indispensable, _ := consent.Indispensable(x)
		_, counts, e := consent.Counts(x)
		for i, name := range people {
			isIdle, isNeeded := slices.Contains(idle, name), slices.Contains(indispensable, name)
			lacks := func(set []string) bool { return !slices.Contains(set, name) }
			if isIdle != (counts[i] == 0) || isNeeded == slices.ContainsFunc(smallest, lacks) || e != api.OK {
				t.Fatal(text(x, 0), name, idle, indispensable, counts, e)
			}
			found[[2]bool{isIdle, isNeeded}]++
		}
	}
	if len(found) != 4 {
		t.Error(found)
	}
}

// randomActs are acts that may be one behind the other, of people of random rules.
func randomActs(r *rand.Rand, n int, kinds ...int) []api.Act {
	l, day := []api.Act{}, 0
	for range n {
		a := act(day, pickOne(r, kinds), pickOne(r, words("a b c d e x")))
		if modelIsPossible(l, a) {
			l = append(l, a)
		}
		day += r.Intn(3)
	}
	return l
}

// P6.8, P6.9: random acts.
func TestRandomActs(t *testing.T) {
	r := rand.New(rand.NewSource(11))
	states := map[int]int{}
	for range 3000 {
		x := randomRule(r, 1+r.Intn(10), 5)
		l := randomActs(r, r.Intn(20), api.ActSign, api.ActSign, api.ActUnsign, api.ActRefuse, api.ActRefuse, api.ActRelent)
		first := -1
		for day := range 50 {
			signed, refused, e := consent.Signed(l, day)
			if !equal(signed, modelDid(l, day, api.ActSign)) || !equal(refused, modelDid(l, day, api.ActRefuse)) || e != api.OK {
				t.Fatal(l, day, signed, refused, e)
			}
			if day%5 > 0 && first >= 0 {
				continue
			}
			state, set, e := consent.State(x, l, day)
			want, names := modelState(x, l, day)
			if state != want || !equal(set, names) || e != api.OK {
				t.Fatal(text(x, 0), l, day, state, set, e)
			}
			states[state]++
			if state == 1 && first < 0 {
				first = day
			}
		}
		day, e := consent.FirstDay(x, l)
		if first < 0 && (day != 0 || e != api.ErrNone) || first >= 0 && (day != first || e != api.OK) {
			t.Fatal(text(x, 0), l, day, e, first)
		}
	}
	if len(states) != 3 || states[1] < 1000 || states[2] < 1000 {
		t.Error(states)
	}
}

// P6.8: acts that are not possible behind random ones.
func TestRandomStates(t *testing.T) {
	r := rand.New(rand.NewSource(12))
	for range 5000 {
		l := randomActs(r, r.Intn(30), 0, 1, 2, 3)
		a := act(100, r.Intn(4), pickOne(r, words("a b c d e x")))
		want := api.ErrState
		if modelIsPossible(l, a) {
			want = api.OK
		}
		if e := consent.CheckActs(with(l, a)); e != want || consent.CheckActs(l) != api.OK {
			t.Fatal(l, a, e, want)
		}
	}
}

// P6.13: what is enough stays enough while nobody withdraws, what blocks stays so while
// nobody relents, and a collection is never enough and blocked.
func TestCollectionsStay(t *testing.T) {
	r := rand.New(rand.NewSource(13))
	states := map[int]int{}
	for range 2000 {
		x, l := randomRule(r, 1+r.Intn(10), 5), randomActs(r, 12, api.ActSign, api.ActRefuse)
		last := 0
		for day := range 30 {
			state, _, e := consent.State(x, l, day)
			if last != 0 && state != last || e != api.OK {
				t.Fatal(text(x, 0), l, day, last, state, e)
			}
			last = state
			signed, refused, _ := consent.Signed(l, day)
			is, _ := consent.Enough(x, signed)
			blocks, _ := consent.Blocks(x, refused)
			if is && blocks || is != (state == 1) || blocks != (state == 2) {
				t.Fatal(text(x, 0), l, day, is, blocks, state)
			}
		}
		states[last]++
	}
	if len(states) != 3 {
		t.Error(states)
	}
}

// P6.2: more people are never less.
func TestMorePeople(t *testing.T) {
	r := rand.New(rand.NewSource(14))
	for range 5000 {
		x, set, further := randomRule(r, 1+r.Intn(20), 8), randomSet(r), randomSet(r)
		more := slices.Compact(slices.Sorted(slices.Values(with(set, further...))))
		is, _ := consent.Enough(x, set)
		still, _ := consent.Enough(x, more)
		blocks, _ := consent.Blocks(x, set)
		stillBlocks, _ := consent.Blocks(x, more)
		if is && !still || blocks && !stillBlocks {
			t.Fatal(text(x, 0), set, more)
		}
	}
}

// P6.7: random shares; a set is enough just if its shares are more than the part.
func TestRandomShares(t *testing.T) {
	r := rand.New(rand.NewSource(15))
	for range 3000 {
		holders := randomSet(r)
		if len(holders) == 0 {
			continue
		}
		den := len(holders) + r.Intn(1001-len(holders))
		var shares []api.Frac
		left := den
		for i := range holders {
			num := left
			if behind := len(holders) - 1 - i; behind > 0 {
				num = 1 + r.Intn(left-behind)
			}
			left -= num
			x := big.NewRat(int64(num), int64(den))
			shares = append(shares, frac(int(x.Num().Int64()), int(x.Denom().Int64())))
		}
		part := big.NewRat(int64(r.Intn(den)), int64(den))
		if r.Intn(2) == 0 {
			part = big.NewRat(int64(r.Intn(1000000)), 1000000)
		}
		rule, e := consent.OfShares(holders, shares, frac(int(part.Num().Int64()), int(part.Denom().Int64())))
		if e != api.OK || consent.CheckRule(rule) != api.OK {
			t.Fatal(holders, shares, part, e)
		}
		for range 10 {
			set, has := randomSet(r), new(big.Rat)
			for i, name := range holders {
				if slices.Contains(set, name) {
					has.Add(has, big.NewRat(int64(shares[i].Num), int64(shares[i].Den)))
				}
			}
			if is, e := consent.Enough(rule, set); is != (has.Cmp(part) > 0) || e != api.OK {
				t.Fatal(holders, shares, part, set, is, e)
			}
		}
	}
}
