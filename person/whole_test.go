package person_test

import (
	"math/rand"
	"slices"
	"testing"

	"mortsafe/api"
	"mortsafe/person"
)

// P4.1, P4.2: random names have the signs, readings and common texts of the model.
func TestRandomNames(t *testing.T) {
	r := rand.New(rand.NewSource(1))
	for range 3000 {
		a := randomSigns(r, 5, false)
		text := modelTexts(a)
		signs, e := person.Signs(text)
		if !slices.Equal(signs, a) || e != api.OK {
			t.Fatal(text, signs, e)
		}
		count := 1
		for _, letters := range a {
			count *= len(letters)
		}
		if n, e := person.Count(text); count <= 1000000 && (n != count || e != api.OK) || count > 1000000 && (n != 0 || e != api.ErrLarge) {
			t.Fatal(text, n, e)
		}
		readings, e := person.Readings(text)
		if count <= 64 && (!slices.Equal(readings, modelReadings(a)) || e != api.OK) || count > 64 && (readings != nil || e != api.ErrLarge) {
			t.Fatal(text, readings, e)
		}
		b := randomSigns(r, 5, false)
		common, is := modelCommon(a, b)
		s, e := person.Common(text, modelTexts(b))
		if is && (s != modelTexts(common) || e != api.OK) || !is && (s != "" || e != api.ErrNone) {
			t.Fatal(text, modelTexts(b), s, e)
		}
	}
}

// P4.2: the distance is the least one of all readings.
func TestRandomDistances(t *testing.T) {
	r := rand.New(rand.NewSource(2))
	for range 1500 {
		a, b := randomSigns(r, 5, true), randomSigns(r, 5, true)
		n, e := person.Distance(modelTexts(a), modelTexts(b))
		if want := modelDistance(a, b); n != want || e != api.OK {
			t.Fatal(a, b, n, e, want)
		}
	}
}

// P4.11: the distance is the same both ways, 0 just if there is a common text, and never
// more than the sum of two others by a name without doubtful signs.
func TestDistancesAgree(t *testing.T) {
	r := rand.New(rand.NewSource(3))
	distance := func(a, b string) int {
		n, e := person.Distance(a, b)
		if e != api.OK {
			t.Fatal(a, b, e)
		}
		return n
	}
	for range 3000 {
		a, b := modelTexts(randomSigns(r, 8, false)), modelTexts(randomSigns(r, 8, false))
		n := distance(a, b)
		if n != distance(b, a) || distance(a, a) != 0 {
			t.Fatal(a, b, n)
		}
		if _, e := person.Common(a, b); (n == 0) != (e == api.OK) {
			t.Fatal(a, b, n, e)
		}
		third := randomSigns(r, 8, false)
		for i := range third {
			third[i] = third[i][:1]
		}
		if c := modelTexts(third); n > distance(a, c)+distance(c, b) {
			t.Fatal(a, b, c)
		}
	}
}

// commonOf is the common text of several names, one after the other; "" if there is none.
func commonOf(names ...string) string {
	text := names[0]
	for _, name := range names[1:] {
		text, _ = person.Common(text, name)
	}
	return text
}

// P4.11: the common text of a name with itself is the name; neither the order nor the
// grouping matters; its readings are those of both.
func TestCommonTextsAgree(t *testing.T) {
	r := rand.New(rand.NewSource(4))
	found := 0
	for range 20000 {
		signs := repeat(3, func(int) []string { return randomSigns(r, 2, true) })
		a, b, c := modelTexts(signs[0]), modelTexts(signs[1]), modelTexts(signs[2])
		if commonOf(a, a) != a || commonOf(a, b) != commonOf(b, a) {
			t.Fatal(a, b)
		}
		all := commonOf(a, b, c)
		later := commonOf(b, c)
		if all != commonOf(a, later) || all != commonOf(c, b, a) || all != commonOf(b, c, a) {
			t.Fatal(a, b, c, all)
		}
		ofA, _ := person.Readings(a)
		ofB, _ := person.Readings(b)
		both := slices.DeleteFunc(ofA, func(s string) bool { return !slices.Contains(ofB, s) })
		readings, e := person.Readings(commonOf(a, b))
		if commonOf(a, b) != "" {
			found++
		} else if e != api.ErrSyntax {
			t.Fatal(e)
		}
		if !slices.Equal(readings, both) {
			t.Fatal(a, b, readings, both)
		}
	}
	if found < 1000 {
		t.Error("few names have a common text:", found)
	}
}

// P4.3, P4.12: random entries have the scores of the model, both ways.
func TestRandomScores(t *testing.T) {
	r := rand.New(rand.NewSource(5))
	for range 3000 {
		l := randomNotes(r, 2)
		changes, _ := person.Distance(l[0].Name, l[1].Name)
		want := [3]int{60 - 20*changes, modelRange(l[0].Born, l[1].Born), modelRange(l[0].Died, l[1].Died)}
		n, parts, e := person.Score(l[0], l[1])
		if n != want[0]+want[1]+want[2] || parts != want || e != api.OK {
			t.Fatal(l, n, parts, e, want)
		}
		if m, other, e := person.Score(l[1], l[0]); m != n || other != parts || e != api.OK {
			t.Fatal(l, m, other, e)
		}
	}
}

// gainsOf returns how much the scores of two lists are above the least one.
func gainsOf(a, b []api.Note, least int) [][]int {
	return repeat(len(a), func(i int) []int {
		return repeat(len(b), func(k int) int {
			n, _, _ := person.Score(a[i], b[k])
			return n - least
		})
	})
}

// P4.4, P4.12: the links of random entries have the greatest value of all links, and
// CheckLink accepts them, and with their dual values just the others with this value.
func TestRandomLinks(t *testing.T) {
	r := rand.New(rand.NewSource(6))
	linked := 0
	for range 1500 {
		a, b := randomNotes(r, r.Intn(6)), randomNotes(r, r.Intn(6))
		least := -100 + r.Intn(161)
		k, value, e := person.Link(a, b, least)
		if e != api.OK {
			t.Fatal(a, b, least, e)
		}
		linked += len(k.Pairs)
		if n, e := person.CheckLink(a, b, least, k); n != value || e != api.OK {
			t.Fatal(a, b, least, k, value, n, e)
		}
		greatest := 0
		modelLinks(gainsOf(a, b, least), len(b), func(pairs [][2]int, sum int) {
			greatest = max(greatest, sum)
			n, e := person.CheckLink(a, b, least, linking(pairs, k.U, k.V))
			if sum == value && (n != value || e != api.OK) || sum != value && (n != 0 || e != api.ErrProof) {
				t.Fatal(a, b, least, pairs, sum, n, e)
			}
		})
		if greatest != value {
			t.Fatal(a, b, least, k, value, greatest)
		}
	}
	if linked < 1500 {
		t.Error("few entries are linked:", linked)
	}
}

// P4.4, P4.12: the links of full lists are proved, too.
func TestFullLinks(t *testing.T) {
	r := rand.New(rand.NewSource(7))
	for range 2000 {
		a, b := randomNotes(r, 5+r.Intn(4)), randomNotes(r, 5+r.Intn(4))
		least := -1000 + r.Intn(1200)
		k, value, e := person.Link(a, b, least)
		if n, wrong := person.CheckLink(a, b, least, k); e != api.OK || n != value || wrong != api.OK {
			t.Fatal(a, b, least, k, value, e, n, wrong)
		}
		if _, turned, e := person.Link(b, a, least); turned != value || e != api.OK {
			t.Fatal(a, b, least, value, turned, e)
		}
	}
}

// P4.4: with a dual value less by one, or more by one, nothing is proved any more.
func TestChangedDualValues(t *testing.T) {
	r := rand.New(rand.NewSource(8))
	for range 500 {
		a, b := randomNotes(r, 1+r.Intn(5)), randomNotes(r, 1+r.Intn(5))
		k, _, _ := person.Link(a, b, 0)
		for i := range len(a) + len(b) {
			for _, change := range []int{-1, 1} {
				x := linking(k.Pairs, slices.Clone(k.U), slices.Clone(k.V))
				duals := x.V
				at := i - len(a)
				if i < len(a) {
					duals, at = x.U, i
				}
				duals[at] += change
				want := api.ErrProof
				if duals[at] < 0 {
					want = api.ErrRange
				}
				if n, e := person.CheckLink(a, b, 0, x); n != 0 || e != want {
					t.Fatal(a, b, x, n, e)
				}
			}
		}
	}
}

// checkClasses compares what is told of random decisions with the model.
func checkClasses(t *testing.T, n int, l []api.Decision, steps [][]int) {
	t.Helper()
	if got, e := person.Standing(n, l); !slices.Equal(got, modelStanding(l)) || e != api.OK {
		t.Fatal(l, got, e)
	}
	classes := modelClasses(steps)
	if got, e := person.Classes(n, l); !equalLists(got, classes) || e != api.OK {
		t.Fatal(l, got, e)
	}
	for _, class := range classes {
		for _, i := range class {
			if got, e := person.ClassOf(n, l, i); !slices.Equal(got, class) || e != api.OK {
				t.Fatal(l, i, got, e)
			}
		}
	}
}

// checkWhy walks along the chains of all pairs.
func checkWhy(t *testing.T, n int, l []api.Decision, steps [][]int) {
	t.Helper()
	standing := modelStanding(l)
	for i := range n {
		for j := range n {
			chain, e := person.Why(n, l, [2]int{i, j})
			if steps[i][j] >= unreachable {
				if chain != nil || e != api.ErrNone {
					t.Fatal(l, i, j, chain, e)
				}
				continue
			}
			at := i
			for _, number := range chain {
				d := l[number]
				if !slices.Contains(standing, number) || d.Kind != api.DecideSame || d.A != at && d.B != at {
					t.Fatal(l, i, j, chain)
				}
				at = d.A + d.B - at
			}
			if at != j || len(chain) != steps[i][j] || e != api.OK {
				t.Fatal(l, i, j, chain, e)
			}
		}
	}
}

// checkContradiction compares the conflicts, and a shortest chain of them.
func checkContradiction(t *testing.T, n int, l []api.Decision, steps [][]int) {
	t.Helper()
	conflicts, shortest := modelConflicts(l, steps)
	if got, e := person.Conflicts(n, l); !slices.Equal(got, conflicts) || e != api.OK {
		t.Fatal(l, got, e)
	}
	c, is, e := person.Contradiction(n, l)
	if is != (len(conflicts) > 0) || e != api.OK {
		t.Fatal(l, c, is, e)
	}
	if !is && (c.Same != nil || c.Different != 0) || is && len(c.Same) != shortest {
		t.Fatal(l, c)
	}
	if wrong := person.CheckChain(n, l, c); is != (wrong == api.OK) {
		t.Fatal(l, c, wrong)
	}
}

// P4.5, P4.6, P4.7, P4.13: random decisions have the classes, chains and contradictions
// of the model.
func TestRandomDecisions(t *testing.T) {
	r := rand.New(rand.NewSource(9))
	contradicting := 0
	for range 1500 {
		n := 2 + r.Intn(7)
		l := randomDecisions(r, n, r.Intn(15))
		steps := modelSteps(n, l)
		checkClasses(t, n, l, steps)
		checkWhy(t, n, l, steps)
		checkContradiction(t, n, l, steps)
		d := randomDecisions(r, n, 1)[0]
		if standing := modelStanding(l); len(standing) > 0 && r.Intn(3) == 0 {
			d = withdraw(standing[r.Intn(len(standing))])
		}
		longer := with(l, d)
		conflicts, _ := modelConflicts(longer, modelSteps(n, longer))
		got, e := person.Decide(n, l, d)
		if len(conflicts) == 0 && (!slices.Equal(got, longer) || e != api.OK) || len(conflicts) > 0 && (got != nil || e != api.ErrClash) {
			t.Fatal(l, d, got, e)
		}
		if len(conflicts) > 0 {
			contradicting++
		}
	}
	if contradicting < 200 || contradicting > 1300 {
		t.Error("contradictions:", contradicting)
	}
}

// P4.13: the classes do not depend on the order of decisions that stand, and withdrawing
// a decision gives the classes without it.
func TestOrderOfDecisions(t *testing.T) {
	r := rand.New(rand.NewSource(10))
	for range 1000 {
		n := 2 + r.Intn(9)
		l := randomDecisions(r, n, 1+r.Intn(15))
		want, _ := person.Classes(n, l)
		var left []api.Decision
		for _, number := range modelStanding(l) {
			left = append(left, l[number])
		}
		for range 5 {
			if got, e := person.Classes(n, left); !equalLists(got, want) || e != api.OK {
				t.Fatal(l, left, got, e)
			}
			r.Shuffle(len(left), func(i, j int) { left[i], left[j] = left[j], left[i] })
		}
		for _, number := range modelStanding(l) {
			var others []api.Decision
			for _, other := range modelStanding(l) {
				if other != number {
					others = append(others, l[other])
				}
			}
			behind, e := person.Classes(n, with(l, withdraw(number)))
			if got, _ := person.Classes(n, others); !equalLists(got, behind) || e != api.OK {
				t.Fatal(l, number, got, behind, e)
			}
		}
	}
}

// P4.7: of random chains just those are accepted that lead, by standing Same decisions,
// from A to B of a standing Different one.
func TestRandomChains(t *testing.T) {
	r := rand.New(rand.NewSource(11))
	accepted := 0
	for range 20000 {
		n := 2 + r.Intn(3)
		l := randomDecisions(r, n, 1+r.Intn(8))
		number := func() int { return r.Intn(len(l) + 1) }
		c := api.Chain{Different: number(), Same: repeat(r.Intn(4), func(int) int { return number() })}
		want := modelCheckChain(l, c)
		if e := person.CheckChain(n, l, c); e != want {
			t.Fatal(l, c, e, want)
		}
		if want == api.OK {
			accepted++
		}
	}
	if accepted < 100 {
		t.Error("few chains are accepted:", accepted)
	}
}

// modelCheckChain looks at the numbers of a chain one by one.
func modelCheckChain(l []api.Decision, c api.Chain) api.Errno {
	standing := modelStanding(l)
	all := with([]int{c.Different}, c.Same...)
	wrong := map[api.Errno]bool{}
	for i, number := range all {
		kind := api.DecideSame
		if i == 0 {
			kind = api.DecideDifferent
		}
		if number >= len(l) {
			return api.ErrMissing
		}
		wrong[api.ErrKind] = wrong[api.ErrKind] || l[number].Kind != kind
		wrong[api.ErrState] = wrong[api.ErrState] || !slices.Contains(standing, number)
	}
	for _, e := range []api.Errno{api.ErrKind, api.ErrState} {
		if wrong[e] {
			return e
		}
	}
	at := l[c.Different].A
	for _, number := range c.Same {
		d := l[number]
		if d.A != at && d.B != at {
			return api.ErrProof
		}
		at = d.A + d.B - at
	}
	if at != l[c.Different].B {
		return api.ErrProof
	}
	return api.OK
}

// hasPersona tells by the model whether some entries have a persona, and which one.
func hasPersona(t *testing.T, l []api.Note, class []int) (api.Note, bool) {
	t.Helper()
	p := l[class[0]]
	common, is := modelSigns(t, p.Name), true
	for _, i := range class[1:] {
		both, has := modelCommon(common, modelSigns(t, l[i].Name))
		common, is = both, is && has
		p.Born.From, p.Born.To = max(p.Born.From, l[i].Born.From), min(p.Born.To, l[i].Born.To)
		p.Died.From, p.Died.To = max(p.Died.From, l[i].Died.From), min(p.Died.To, l[i].Died.To)
	}
	p.Name = modelTexts(common)
	return p, is && p.Born.From <= p.Born.To && p.Died.From <= p.Died.To && p.Died.To >= p.Born.From
}

func modelSigns(t *testing.T, name string) []string {
	t.Helper()
	signs, e := person.Signs(name)
	if e != api.OK {
		t.Fatal(name, e)
	}
	return signs
}

// randomPeople returns entries of which many have a persona.
func randomPeople(r *rand.Rand, n int) []api.Note {
	return repeat(n, func(int) api.Note {
		from, to := r.Intn(40), 60+r.Intn(60)
		if r.Intn(9) == 0 {
			to = from + r.Intn(30)
		}
		died := 30 + r.Intn(60)
		x := entry(modelTexts([]string{"M", []string{"a", "ae", "aei", "ei", alphabet}[r.Intn(5)]}), from, to, died, died+r.Intn(90))
		x.Died.To = max(x.Died.To, x.Born.From)
		return x
	})
}

// P4.9, P4.13: random classes have the persona of the model; a persona's readings are
// readings of all its entries; fewer entries allow no less.
func TestRandomPersonae(t *testing.T) {
	r := rand.New(rand.NewSource(12))
	found := 0
	for range 3000 {
		l := randomPeople(r, 2+r.Intn(4))
		var class []int
		for i := range l {
			if r.Intn(2) == 0 {
				class = append(class, i)
			}
		}
		if class == nil {
			continue
		}
		p, e := person.Persona(l, class)
		want, is := hasPersona(t, l, class)
		if is && (p != want || e != api.OK) || !is && (p != api.Note{} || e != api.ErrClash) {
			t.Fatal(l, class, p, e, want)
		}
		if !is {
			continue
		}
		found++
		checkFewer(t, l, class, p)
	}
	if found < 1000 {
		t.Error("few personae:", found)
	}
}

// checkFewer compares a persona with those of all but one entry, and its readings with
// those of its entries.
func checkFewer(t *testing.T, l []api.Note, class []int, p api.Note) {
	t.Helper()
	readings, _ := person.Readings(p.Name)
	for i, number := range class {
		for _, reading := range readings {
			if s, e := person.Common(reading, l[number].Name); s != reading || e != api.OK {
				t.Fatal(l, class, p, reading)
			}
		}
		fewer := slices.Delete(slices.Clone(class), i, i+1)
		if len(fewer) == 0 {
			continue
		}
		q, e := person.Persona(l, fewer)
		if s, _ := person.Common(p.Name, q.Name); e != api.OK || s != p.Name {
			t.Fatal(l, class, p, q, e)
		}
		if q.Born.From > p.Born.From || q.Born.To < p.Born.To || q.Died.From > p.Died.From || q.Died.To < p.Died.To {
			t.Fatal(l, class, p, q)
		}
	}
}

// P4.9: Impossible is just the classes that have no persona.
func TestRandomImpossible(t *testing.T) {
	r := rand.New(rand.NewSource(13))
	for range 1500 {
		l := randomPeople(r, 2+r.Intn(7))
		d := randomDecisions(r, len(l), r.Intn(8))
		var want [][]int
		for _, class := range modelClasses(modelSteps(len(l), d)) {
			if _, is := hasPersona(t, l, class); !is {
				want = append(want, class)
			}
		}
		if got, e := person.Impossible(l, d); !equalLists(got, want) || e != api.OK {
			t.Fatal(l, d, got, e, want)
		}
	}
}

// P4.8, P4.10: what is printed is read back.
func TestRandomTexts(t *testing.T) {
	r := rand.New(rand.NewSource(14))
	for range 500 {
		l := randomNotes(r, r.Intn(10))
		s, e := person.Print(l)
		got, n, wrong := person.Parse(s)
		if e != api.OK || !slices.Equal(got, l) || n != 0 || wrong != api.OK {
			t.Fatal(s, e, got, n, wrong)
		}
		for _, d := range randomDecisions(r, 60, 5) {
			if got, e := person.ParseDecision(person.FormatDecision(d)); got != d || e != api.OK {
				t.Fatal(d, got, e)
			}
		}
	}
}
