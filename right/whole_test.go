package right_test

import (
	"maps"
	"math/big"
	"math/rand"
	"slices"
	"testing"

	"mortsafe/api"
	"mortsafe/right"
)

// someNames and somePlaces are those of random deeds.
var (
	someNames  = []string{"a", "b", "c", "d", "e", "f", "g", "h"}
	somePlaces = []string{"p", "q", "r"}
)

func pickOne[T any](r *rand.Rand, l []T) T { return l[r.Intn(len(l))] }

// randomParts are parts of different people whose fractions add up to at most 1, or to 1.
func randomParts(r *rand.Rand, all bool, but string) []api.Part {
	var l []api.Part
	rest := big.NewRat(1, 1)
	for _, i := range r.Perm(len(someNames)) {
		name := someNames[i]
		if name == but {
			continue
		}
		den := int64(1 + r.Intn(16))
		x := big.NewRat(1+r.Int63n(den), den)
		if all && (rest.Denom().Cmp(big.NewInt(16)) <= 0 && r.Intn(3) == 0) {
			x = rest
		}
		left := new(big.Rat).Sub(rest, x)
		if left.Sign() < 0 || all && left.Denom().Cmp(big.NewInt(16)) > 0 {
			continue
		}
		rest = left
		l = append(l, part(name, int(x.Num().Int64()), int(x.Denom().Int64())))
		if rest.Sign() == 0 || !all && r.Intn(2) == 0 {
			return l
		}
	}
	if all && rest.Sign() > 0 || len(l) == 0 {
		return randomParts(r, all, but)
	}
	return l
}

// profile is how often the kinds of deeds are chosen, how many days go by at most, and of
// how many places they are.
type profile struct {
	kinds        [9]int
	days, places int
	laws         []api.Law
}

var profiles = []profile{
	{[9]int{4, 5, 2, 2, 3, 1, 6, 3, 3}, 40, 3, twoLaws()},
	{[9]int{2, 1, 1, 0, 1, 2, 9, 2, 4}, 20, 3, []api.Law{law(0, true, 1, 3), law(300, false, 0, 1), law(600, true, 2, 5)}},
	{[9]int{2, 20, 3, 0, 3, 1, 4, 2, 1}, 10, 1, []api.Law{law(0, true, 3, 13), law(100, true, 5, 11)}},
	{[9]int{3, 12, 0, 0, 9, 1, 4, 2, 2}, 10, 2, nil},
	{[9]int{6, 3, 4, 8, 1, 0, 2, 1, 2}, 300, 2, twoLaws()},
	{[9]int{2, 9, 0, 0, 5, 0, 0, 3, 2}, 5, 1, []api.Law{law(0, false, 7, 16)}},
}

func randomKind(r *rand.Rand, kinds [9]int) int {
	sum := 0
	for _, n := range kinds {
		sum += n
	}
	x := r.Intn(sum)
	for kind, n := range kinds {
		if x < n {
			return kind
		}
		x -= n
	}
	return 0
}

// randomDeed is a deed that is right by itself.
func randomDeed(r *rand.Rand, p profile, day int) api.Deed {
	d := api.Deed{Kind: randomKind(r, p.kinds), Day: day}
	switch d.Kind {
	case api.DeedGrant:
		d.Class = r.Intn(5)
		d.Years = pickOne(r, []int{0, 1, 1, 2, 99})
		if d.Class == api.ClassTerm && d.Years == 0 {
			d.Years = 1
		}
	case api.DeedRenewal:
		d.Years = pickOne(r, []int{1, 1, 2, 99})
	}
	if d.Kind <= api.DeedRenewal {
		d.Place = somePlaces[r.Intn(p.places)]
	}
	if d.Kind != api.DeedGrant && d.Kind != api.DeedRenewal {
		d.From = pickOne(r, someNames)
	}
	switch d.Kind {
	case api.DeedGrant, api.DeedTransfer, api.DeedWill:
		d.To = randomParts(r, d.Kind == api.DeedGrant, d.From)
	case api.DeedRenounce, api.DeedChild, api.DeedMarriage:
		to := pickOne(r, someNames)
		for to == d.From {
			to = pickOne(r, someNames)
		}
		d.To = parts(api.Part{Name: to})
	}
	return d
}

// randomRights calls what with each of random deeds, the rights before it, and those with
// it; these are as before if the deed is refused.
func randomRights(seed int64, rounds int, what func(before api.Rights, d api.Deed, after api.Rights, e api.Errno)) {
	r := rand.New(rand.NewSource(seed))
	for i := range rounds {
		p := profiles[i%len(profiles)]
		rights := api.Rights{Laws: p.laws}
		day := 0
		for range 70 {
			if r.Intn(3) == 0 {
				day = min(day+r.Intn(p.days), api.MaxDay)
			}
			d := randomDeed(r, p, day)
			after, e := right.Next(rights, d)
			if e != api.OK {
				after = rights
			}
			what(rights, d, after, e)
			rights = after
		}
	}
}

// P5.2: random deeds are accepted and refused as the model does it; each kind of error is
// among them.
func TestRandomDeeds(t *testing.T) {
	seen := map[[2]int]int{}
	randomRights(1, 600, func(before api.Rights, d api.Deed, after api.Rights, e api.Errno) {
		if wrong := right.CheckDeed(d); wrong != api.OK {
			t.Fatal(d, wrong)
		}
		m := modelOn(before, api.MaxDay)
		if want := m.accept(d); e != want {
			t.Fatal(before, d, e, want)
		}
		seen[[2]int{d.Kind, int(e)}]++
	})
	for _, x := range [][2]api.Errno{
		{api.DeedGrant, api.OK}, {api.DeedGrant, api.ErrClash}, {api.DeedGrant, api.ErrState}, {api.DeedTransfer, api.OK}, {api.DeedTransfer, api.ErrMissing}, {api.DeedTransfer, api.ErrKind},
		{api.DeedTransfer, api.ErrRight}, {api.DeedTransfer, api.ErrState}, {api.DeedTransfer, api.ErrLarge}, {api.DeedSurrender, api.OK}, {api.DeedSurrender, api.ErrMissing}, {api.DeedSurrender, api.ErrRight},
		{api.DeedSurrender, api.ErrLarge}, {api.DeedRenewal, api.OK}, {api.DeedRenewal, api.ErrMissing}, {api.DeedRenewal, api.ErrKind}, {api.DeedRenewal, api.ErrRange}, {api.DeedWill, api.OK}, {api.DeedWill, api.ErrState},
		{api.DeedRenounce, api.OK}, {api.DeedRenounce, api.ErrState}, {api.DeedRenounce, api.ErrExists}, {api.DeedChild, api.OK}, {api.DeedChild, api.ErrExists}, {api.DeedChild, api.ErrFull}, {api.DeedChild, api.ErrCycle},
		{api.DeedMarriage, api.OK}, {api.DeedMarriage, api.ErrState}, {api.DeedMarriage, api.ErrClash}, {api.DeedDeath, api.OK}, {api.DeedDeath, api.ErrState}, {api.DeedDeath, api.ErrLarge},
	} {
		if seen[[2]int{int(x[0]), int(x[1])}] == 0 {
			t.Error("not seen", x)
		}
	}
}

// P5.3 to P5.5: on each day all is as the model says.
func TestRandomQuestions(t *testing.T) {
	r := rand.New(rand.NewSource(2))
	count := 0
	randomRights(2, 120, func(before api.Rights, d api.Deed, after api.Rights, e api.Errno) {
		if count++; count%7 != 0 || len(after.Deeds) == 0 {
			return
		}
		day := pickOne(r, after.Deeds).Day + pickOne(r, []int{0, 0, 0, 1, 364, 365, -1})
		if day < 0 {
			return
		}
		m := modelOn(after, day)
		for _, place := range somePlaces {
			comparePlace(t, m, after, place, day)
		}
		for _, name := range someNames {
			comparePerson(t, m, after, name, day)
		}
	})
}

func comparePlace(t *testing.T, m *model, r api.Rights, place string, day int) {
	t.Helper()
	force := m.force(place, day)
	class, e1 := right.Class(r, place, day)
	ends, e2 := right.Ends(r, place, day)
	holders, e3 := right.Holders(r, place, day)
	most, e4 := right.Majority(r, place, day)
	if force == nil {
		if class != 0 || ends != 0 || len(holders)+len(most) != 0 || e1 != api.ErrNone || e2 != api.ErrNone || e3 != api.OK || e4 != api.ErrNone {
			t.Fatal(r, place, day, class, ends, holders, most)
		}
		return
	}
	want := modelParts(force.has)
	wantMost, e := modelMajority(want)
	if class != force.grant.Class || ends != force.end || !slices.Equal(holders, want) || !slices.Equal(most, wantMost) || e1 != api.OK || e2 != api.OK || e3 != api.OK || e4 != e {
		t.Fatal(r, place, day, class, ends, holders, want, most, wantMost)
	}
	for _, name := range someNames {
		share, e := right.Share(r, place, name, day)
		has := force.has[name]
		if has == nil {
			has = new(big.Rat)
		}
		if rat(share).Cmp(has) != 0 || e != api.OK {
			t.Fatal(r, place, name, day, share, has)
		}
		if is, e := right.MayBury(r, place, name, day); is != m.mayBury(force, name, someNames) || e != api.OK {
			t.Fatal(r, place, name, day, is)
		}
	}
}

func comparePerson(t *testing.T, m *model, r api.Rights, name string, day int) {
	t.Helper()
	living, e1 := right.Alive(r, name, day)
	spouse, e2 := right.Spouse(r, name, day)
	descendants, e3 := right.Descendants(r, name, day)
	held, e4 := right.Held(r, name, day)
	below := slices.DeleteFunc(slices.Clone(someNames), func(x string) bool { return !m.descends(x, name) })
	var places []string
	for _, place := range somePlaces {
		if force := m.force(place, day); force != nil && force.has[name] != nil {
			places = append(places, place)
		}
	}
	if living == m.dead(name) || spouse != m.spouse(name) || !slices.Equal(descendants, below) || !slices.Equal(held, places) || e1+e2+e3+e4 != api.OK {
		t.Fatal(r, name, day, living, spouse, descendants, held)
	}
	heirs, e := right.Estate(r, name, day)
	if m.dead(name) {
		if len(heirs) != 0 || e != api.ErrState {
			t.Fatal(r, name, day, heirs, e)
		}
		return
	}
	m.fine = false
	want := modelParts(m.estate(name, day))
	if m.fine && (len(heirs) != 0 || e != api.ErrLarge) || !m.fine && (!slices.Equal(heirs, want) || e != api.OK) {
		t.Fatal(r, name, day, heirs, e, want)
	}
}

// P5.3: Tenures tells the holders of each day, from those days on.
func TestRandomTenures(t *testing.T) {
	count := 0
	randomRights(3, 12, func(before api.Rights, d api.Deed, after api.Rights, e api.Errno) {
		if count++; count%70 != 0 {
			return
		}
		for _, place := range somePlaces {
			tenures, e := right.Tenures(after, place)
			if e != api.OK {
				t.Fatal(after, e)
			}
			var holders []api.Part
			last := 0
			if len(after.Deeds) > 0 {
				last = after.Deeds[len(after.Deeds)-1].Day + 800
			}
			for day := range min(last, api.MaxDay) {
				l, _ := right.Holders(after, place, day)
				if slices.Equal(l, holders) {
					continue
				}
				if len(tenures) == 0 || tenures[0].From != day || !slices.Equal(tenures[0].Holders, l) {
					t.Fatal(after, place, day, l, tenures)
				}
				holders, tenures = l, tenures[1:]
			}
			if len(tenures) > 1 || len(tenures) == 1 && (tenures[0].From < last || len(tenures[0].Holders) > 0) {
				t.Fatal(after, place, tenures)
			}
		}
	})
}

// sumOf adds up shares, which must be greater than 0.
func sumOf(t *testing.T, l []api.Part) *big.Rat {
	t.Helper()
	sum := new(big.Rat)
	for _, p := range l {
		if p.Share.Num <= 0 || p.Share.Den > api.MaxShare {
			t.Fatal(l)
		}
		sum.Add(sum, rat(p.Share))
	}
	return sum
}

// P5.9: the shares of a right in force, and the fractions of an estate, add up to 1.
func TestSharesAreOne(t *testing.T) {
	one := big.NewRat(1, 1)
	randomRights(4, 60, func(before api.Rights, d api.Deed, after api.Rights, e api.Errno) {
		for _, place := range somePlaces {
			l, _ := right.Holders(after, place, d.Day)
			if _, e := right.Class(after, place, d.Day); (e == api.OK) != (len(l) > 0) {
				t.Fatal(after, place, l, e)
			}
			if len(l) > 0 && sumOf(t, l).Cmp(one) != 0 {
				t.Fatal(after, place, l)
			}
		}
		if l, e := right.Estate(after, "a", d.Day); e == api.OK && sumOf(t, l).Cmp(one) != 0 {
			t.Fatal(after, l)
		}
	})
}

// sharesOf are the holders of a place behind all deeds.
func sharesOf(r api.Rights, place string, day int) map[string]*big.Rat {
	l, _ := right.Holders(r, place, day)
	has := map[string]*big.Rat{}
	for _, p := range l {
		has[p.Name] = rat(p.Share)
	}
	return has
}

// P5.9: a surrender keeps the proportions of the others; what a transfer gives away, the
// others get.
func TestProportions(t *testing.T) {
	surrenders, transfers := 0, 0
	randomRights(5, 200, func(before api.Rights, d api.Deed, after api.Rights, e api.Errno) {
		old, young := sharesOf(before, d.Place, d.Day), sharesOf(after, d.Place, d.Day)
		switch {
		case e == api.OK && d.Kind == api.DeedSurrender:
			surrenders++
			if young[d.From] != nil || len(young) != len(old)-1 {
				t.Fatal(before, d, old, young)
			}
			for a := range young {
				for b := range young {
					left, right := new(big.Rat).Mul(old[a], young[b]), new(big.Rat).Mul(old[b], young[a])
					if left.Cmp(right) != 0 {
						t.Fatal(before, d, old, young)
					}
				}
			}
		case e == api.OK && d.Kind == api.DeedTransfer:
			transfers++
			lost := new(big.Rat).Set(old[d.From])
			if young[d.From] != nil {
				lost.Sub(lost, young[d.From])
			}
			for name, x := range young {
				if name == d.From {
					continue
				}
				lost.Sub(lost, x)
				if old[name] != nil {
					lost.Add(lost, old[name])
				}
			}
			if lost.Sign() != 0 {
				t.Fatal(before, d, old, young)
			}
		}
	})
	if surrenders < 50 || transfers < 50 {
		t.Error(surrenders, transfers)
	}
}

// P5.11: rights with a deed more are the same up to the day before it.
func TestEarlierDaysStay(t *testing.T) {
	r := rand.New(rand.NewSource(6))
	asked := allAsked()
	randomRights(6, 60, func(before api.Rights, d api.Deed, after api.Rights, e api.Errno) {
		if d.Day == 0 || e != api.OK {
			return
		}
		day := r.Intn(d.Day)
		if r.Intn(3) == 0 {
			day = d.Day - 1
		}
		for _, x := range asked {
			if !x.day {
				continue
			}
			place, name := pickOne(r, somePlaces), pickOne(r, someNames)
			was, e := x.ask(before, place, name, day)
			is, wrong := x.ask(after, place, name, day)
			if !equal(was, is) || e != wrong {
				t.Fatal(x.what, before, d, place, name, day, was, is)
			}
		}
		place := pickOne(r, somePlaces)
		was, _ := right.Tenures(before, place)
		is, _ := right.Tenures(after, place)
		isLater := func(x api.Tenure) bool { return x.From >= d.Day }
		if !equal(slices.DeleteFunc(was, isLater), slices.DeleteFunc(is, isLater)) {
			t.Fatal(before, d, was, is)
		}
	})
}

// P5.11: random deeds are read back from their texts.
func TestRandomTextsOfDeeds(t *testing.T) {
	randomRights(7, 60, func(before api.Rights, d api.Deed, after api.Rights, e api.Errno) {
		if got, e := right.ParseDeed(right.FormatDeed(d)); !equal(got, d) || e != api.OK {
			t.Fatal(d, got, e)
		}
	})
}

// randomRecords are records of few people, places and days.
func randomRecords(r *rand.Rand, n int) []api.Record {
	people, places := someNames[:2+r.Intn(4)], somePlaces[:1+r.Intn(2)]
	days := 2 + r.Intn(8)
	kinds := [][]int{{0, 1, 2, 3, 4}, {2}, {3}, {4}, {0, 1}, {3, 3, 3, 2}, {1, 3, 4}}[r.Intn(7)]
	return repeat(n, func(int) api.Record {
		name, day := pickOne(r, people), r.Intn(days)
		switch pickOne(r, kinds) {
		case api.RecordAlive:
			return alive(name, day)
		case api.RecordDied:
			return died(name, day+r.Intn(days))
		case api.RecordChild:
			return childOf(name, pickOne(r, someNames))
		case api.RecordHolds:
			f := rat(frac(1+r.Intn(2), 3+r.Intn(10)))
			return holds(name, pickOne(r, places), int(f.Num().Int64()), int(f.Denom().Int64()), r.Intn(3))
		}
		return granted(name, pickOne(r, places), day, day+1+r.Intn(2))
	})
}

// minimal are all sets of records that contradict of which none without one of them does,
// those with fewest records first, and of equal sizes lexicographically.
func minimal(l []api.Record) [][]int {
	var sets [][]int
	all := map[int]bool{}
	for bits := range 1 << len(l) {
		all[bits] = modelContradicts(chosen(l, bits))
	}
	for _, bits := range slices.Sorted(maps.Keys(all)) {
		is := all[bits]
		for i := range l {
			is = is && (bits&(1<<i) == 0 || !all[bits&^(1<<i)])
		}
		if is {
			sets = append(sets, slices.DeleteFunc(repeat(len(l), func(i int) int { return i }), func(i int) bool { return bits&(1<<i) == 0 }))
		}
	}
	slices.SortFunc(sets, func(a, b []int) int {
		if len(a) != len(b) {
			return len(a) - len(b)
		}
		return slices.Compare(a, b)
	})
	return sets
}

func chosen(l []api.Record, bits int) []api.Record {
	var some []api.Record
	for i, r := range l {
		if bits&(1<<i) != 0 {
			some = append(some, r)
		}
	}
	return some
}

// P5.6, P5.7, P5.10: random records contradict as the model says; what is told of them is
// a smallest contradiction, and those that leave one record of each such one out agree.
func TestRandomRecords(t *testing.T) {
	r := rand.New(rand.NewSource(8))
	found := map[int]int{}
	for range 1500 {
		l := randomRecords(r, r.Intn(10))
		sets := minimal(l)
		if is, e := right.Contradicts(l); is != (len(sets) > 0) || e != api.OK {
			t.Fatal(l, is, e, sets)
		}
		set, e := right.Dispute(l)
		least, wrong := right.LeastDispute(l)
		if len(sets) == 0 {
			if len(set)+len(least) != 0 || e != api.ErrNone || wrong != api.ErrNone {
				t.Fatal(l, set, least)
			}
			continue
		}
		isSet := func(s []int) bool { return slices.Equal(s, set) }
		if !slices.ContainsFunc(sets, isSet) || !slices.Equal(least, sets[0]) || len(least) > len(set) || e != api.OK || wrong != api.OK {
			t.Fatal(l, set, least, sets)
		}
		found[len(set)]++
		for _, s := range sets {
			if e := right.CheckDispute(l, s); e != api.OK {
				t.Fatal(l, s, e)
			}
		}
		for bits := range 1 << len(l) {
			s := slices.DeleteFunc(repeat(len(l), func(i int) int { return i }), func(i int) bool { return bits&(1<<i) == 0 })
			accepted := slices.ContainsFunc(sets, func(x []int) bool { return slices.Equal(x, s) })
			if e := right.CheckDispute(l, s); (e == api.OK) != accepted || !accepted && e != api.ErrProof {
				t.Fatal(l, s, e)
			}
		}
		left := 1<<len(l) - 1
		for _, s := range sets {
			left &^= 1 << pickOne(r, s)
		}
		if is, e := right.Contradicts(chosen(l, left)); is || e != api.OK {
			t.Fatal(l, left, is, e)
		}
	}
	for n := 1; n <= 3; n++ {
		if found[n] == 0 {
			t.Error("no disputes of", n, found)
		}
	}
}

// P5.7: Dispute leaves records out from the first one to the last one.
func TestRandomDisputes(t *testing.T) {
	r := rand.New(rand.NewSource(9))
	disputes := 0
	for range 1500 {
		l := randomRecords(r, 10+r.Intn(31))
		left := repeat(len(l), func(i int) int { return i })
		for i := range l {
			fewer := slices.DeleteFunc(slices.Clone(left), func(k int) bool { return k == i })
			if modelContradicts(repeat(len(fewer), func(k int) api.Record { return l[fewer[k]] })) {
				left = fewer
			}
		}
		set, e := right.Dispute(l)
		if !modelContradicts(l) {
			if len(set) != 0 || e != api.ErrNone {
				t.Fatal(l, set, e)
			}
			continue
		}
		disputes++
		if !slices.Equal(set, left) || e != api.OK || right.CheckDispute(l, set) != api.OK {
			t.Fatal(l, set, left, e)
		}
	}
	if disputes < 500 {
		t.Error(disputes)
	}
}

// P5.10: with more records there is never less contradiction.
func TestMoreRecordsContradict(t *testing.T) {
	r := rand.New(rand.NewSource(10))
	for range 3000 {
		l := randomRecords(r, 2+r.Intn(12))
		before := false
		for i := range l {
			is, e := right.Contradicts(l[:i+1])
			if before && !is || e != api.OK {
				t.Fatal(l[:i+1])
			}
			before = is
		}
	}
}
