package allot_test

import (
	"math/rand"
	"slices"
	"testing"

	"mortsafe/allot"
	"mortsafe/api"
)

// The examples of the chapter.
func TestExamples(t *testing.T) {
	w, v := wishes(), vacancies()
	pairs, e := allot.Pairs(w, v)
	check(t, "example 1: Pairs", pairs, e, [][]int{{0, 1}, {1}, {1}})
	checkPlaced(t, "example 1", w, v, 2)
	n, e := allot.CheckCover(w, v, cover([]int{0}, []int{1}))
	check(t, "example 1: the cover", n, e, 2)
	n, e = allot.NewGraves(w, v)
	check(t, "example 1: NewGraves", n, e, 1)
	l, e := allot.InOrder(w, v)
	check(t, "example 1: InOrder", l, e, []int{0, 1, -1})
	l, e = allot.First(w, v)
	check(t, "example 1: First", l, e, []int{0, 1, -1})
	l, e = allot.InOrder(w, turned())
	check(t, "example 2: InOrder", l, e, []int{0, -1, -1})
	l, e = allot.First(w, turned())
	check(t, "example 2: First", l, e, []int{1, 0, -1})
	three := funerals(3)
	at, e := allot.Earliest(hall(), nil, nil, three[0])
	check(t, "example 3", at, e, slot(5, 600, 0))
	at, e = allot.Earliest(hall(), three[:1], slots(at), three[1])
	check(t, "example 3, a second time", at, e, slot(5, 780, 0))
	at, e = allot.Earliest(hall(), three[:2], slots(slot(5, 600, 0), at), three[2])
	check(t, "example 3, a third time", at, e, slot(6, 600, 0))
	n, e = allot.DaysNeeded(hall(), three)
	check(t, "example 4", n, e, 2)
}

// Of three burials two suit one place each, and the third one the same place as the second.
func TestExampleOfTheWhole(t *testing.T) {
	w := staircase(9, 1, 1)
	w[0].Section = "t"
	v := steps(2, 1)
	v[0].Section = "t"
	pairs, e := allot.Pairs(w, v)
	check(t, "Pairs", pairs, e, [][]int{{0}, {1}, {1}})
	a, c, e := allot.Allot(w, v)
	n, _ := allot.CheckAllot(w, v, a)
	check(t, "Allot", n, e, 2)
	check(t, "the cover", c, e, cover([]int{0}, []int{1}))
}

// P7.1, P7.2, P7.4: random places against all allotments and all covers.
func TestRandomPlaces(t *testing.T) {
	r := rand.New(rand.NewSource(7))
	needed, differ := map[int]int{}, 0
	for i := range 20000 {
		w, v := randomPlaces(r, r.Intn(6), r.Intn(5), 2)
		if i%2 == 0 {
			w, v = randomPlaces(r, 5, 4, 1)
		}
		all := modelAllotments(w, v)
		most := 0
		for _, a := range all {
			most = max(most, modelPlaced(a))
		}
		first := all[slices.IndexFunc(all, func(a []int) bool { return modelPlaced(a) == most })]
		got, e := allot.First(w, v)
		if !slices.Equal(got, first) || e != api.OK {
			t.Fatal(w, v, got, first, e)
		}
		a, c, e := allot.Allot(w, v)
		if !slices.ContainsFunc(all, func(b []int) bool { return slices.Equal(a, b) }) || modelPlaced(a) != most || e != api.OK {
			t.Fatal(w, v, a, most, e)
		}
		weight, e := allot.CheckCover(w, v, c)
		if weight != most || e != api.OK || modelLeastWeight(w, v) != most {
			t.Fatal(w, v, c, weight, most, e)
		}
		graves, e := allot.NewGraves(w, v)
		if graves != len(w)-most || e != api.OK {
			t.Fatal(w, v, graves, most, e)
		}
		order, e := allot.InOrder(w, v)
		if !slices.Equal(order, modelInOrder(w, v)) || e != api.OK {
			t.Fatal(w, v, order, e)
		}
		needed[graves]++
		if !slices.Equal(order, first) {
			differ++
		}
	}
	if len(needed) < 5 || differ < 300 {
		t.Error(needed, differ)
	}
}

// P7.3, P7.4: random allotments and covers, right and wrong.
func TestRandomProofs(t *testing.T) {
	r := rand.New(rand.NewSource(8))
	errors := map[api.Errno]int{}
	for range 20000 {
		w, v := randomPlaces(r, r.Intn(4), r.Intn(4), 2)
		a := repeat(len(w), func(int) int { return r.Intn(len(v)+1) - 1 })
		left, e := allot.Left(w, v, a)
		n, wrong := allot.CheckAllot(w, v, a)
		isRight := slices.ContainsFunc(modelAllotments(w, v), func(b []int) bool { return slices.Equal(a, b) })
		if (e == api.OK) != isRight || wrong != e || isRight && n != modelPlaced(a) {
			t.Fatal(w, v, a, n, e, wrong)
		}
		for j := range left {
			if left[j] != v[j].Room-len(modelPlacesOf(a, j)) {
				t.Fatal(w, v, a, left)
			}
		}
		errors[e]++
		c := randomCover(r, len(w), len(v))
		weight, e := allot.CheckCover(w, v, c)
		if want := modelCover(w, v, c); weight != want && want >= 0 || (e == api.OK) != (want >= 0) || e != api.OK && e != api.ErrGap {
			t.Fatal(w, v, c, weight, want, e)
		}
		errors[e]++
	}
	if errors[api.OK] < 1000 || errors[api.ErrKind] < 500 || errors[api.ErrFull] < 500 || errors[api.ErrGap] < 1000 {
		t.Error(errors)
	}
}

func randomCover(r *rand.Rand, wishes, vacancies int) api.Cover {
	some := func(n int) []int {
		return slices.DeleteFunc(days(n), func(int) bool { return r.Intn(3) == 0 })
	}
	return cover(some(wishes), some(vacancies))
}

// modelCover is the weight of a cover, or -1 if it misses a pair.
func modelCover(w []api.Wish, v []api.Vacancy, c api.Cover) int {
	for i := range w {
		for j := range v {
			if modelSuits(w[i], v[j]) && !slices.Contains(c.Wishes, i) && !slices.Contains(c.Vacancies, j) {
				return -1
			}
		}
	}
	weight := len(c.Wishes)
	for _, j := range c.Vacancies {
		weight += v[j].Room
	}
	return weight
}

// P7.2: large random places: the cover proves the allotment, and First is what is found when
// the wishes are placed one after the other without needing more new graves.
func TestRandomManyPlaces(t *testing.T) {
	r := rand.New(rand.NewSource(9))
	for range 40 {
		w, v := randomPlaces(r, 10+r.Intn(51), 10+r.Intn(51), 1+r.Intn(2))
		a, c, e := allot.Allot(w, v)
		n, wrong := allot.CheckAllot(w, v, a)
		weight, wrongCover := allot.CheckCover(w, v, c)
		if e != api.OK || wrong != api.OK || wrongCover != api.OK || n != weight {
			t.Fatal(w, v, a, c, n, weight, e, wrong, wrongCover)
		}
		first, e := allot.First(w, v)
		if want := slowFirst(t, w, v); !slices.Equal(first, want) || e != api.OK {
			t.Fatal(w, v, first, want, e)
		}
	}
}

// slowFirst asks of each wish and vacancy how many new graves are needed if it is there.
func slowFirst(t *testing.T, w []api.Wish, v []api.Vacancy) []int {
	v = slices.Clone(v)
	needed := func(w []api.Wish) int {
		n, e := allot.NewGraves(w, v)
		if e != api.OK {
			t.Fatal(e)
		}
		return n
	}
	left := needed(w)
	var a []int
	for i := range w {
		at := -1
		for j := range v {
			if !modelSuits(w[i], v[j]) || v[j].Room == 0 {
				continue
			}
			v[j].Room--
			if needed(w[i+1:]) == left {
				at = j
				break
			}
			v[j].Room++
		}
		if at < 0 {
			left--
		}
		a = append(a, at)
	}
	return a
}

// P7.9: InOrder places at least half as many; what one vacancy, more room or a wish more do.
func TestConsequencesOfPlaces(t *testing.T) {
	r := rand.New(rand.NewSource(10))
	graves := func(w []api.Wish, v []api.Vacancy) int {
		n, e := allot.NewGraves(w, v)
		if e != api.OK {
			t.Fatal(w, v, e)
		}
		return n
	}
	fewer := 0
	for range 3000 {
		w, v := randomPlaces(r, 1+r.Intn(12), 1+r.Intn(10), 3)
		n := graves(w, v)
		order, _ := allot.InOrder(w, v)
		if 2*modelPlaced(order) < len(w)-n || modelPlaced(order) > len(w)-n {
			t.Fatal(w, v, order, n)
		}
		if less := graves(w, v[1:]); less < n {
			t.Fatal(w, v, n, less)
		}
		if less := graves(w[1:], v); less > n || less < n-1 {
			t.Fatal(w, v, n, less)
		}
		more := slices.Clone(v)
		more[0].Room++
		if less := graves(w, more); less > n {
			t.Fatal(w, v, n, less)
		} else if less < n {
			fewer++
		}
	}
	if fewer == 0 {
		t.Error("room never helps")
	}
}

// P7.6: random slots, minute by minute.
func TestRandomSlots(t *testing.T) {
	r := rand.New(rand.NewSource(11))
	answers := map[api.Errno]int{}
	for range 20000 {
		h := randomHall(r, 60)
		l := randomFunerals(r, h, r.Intn(5))
		s := repeat(len(l), func(i int) api.Slot {
			if r.Intn(30) == 0 {
				return slot(r.Intn(9)-1, r.Intn(60)-1, r.Intn(h.Chapels+1))
			}
			return slot(l[i].From+r.Intn(2), 10+r.Intn(30), r.Intn(h.Chapels))
		})
		n, e := allot.Accept(h, l, s)
		want, wrong := modelAccept(h, l, s)
		if n != want || e != wrong {
			t.Fatal(h, l, s, n, e, want, wrong)
		}
		answers[e]++
		checkCrews(t, r, h, l, s)
	}
	for _, e := range []api.Errno{api.OK, api.ErrRange, api.ErrEarly, api.ErrLate, api.ErrState, api.ErrBusy, api.ErrStock} {
		if answers[e] < 20 {
			t.Error(answers)
		}
	}
}

// checkCrews compares the crews at some minutes of a day.
func checkCrews(t *testing.T, r *rand.Rand, h api.Hall, l []api.Funeral, s []api.Slot) {
	if len(s) == 0 || slices.ContainsFunc(s, func(x api.Slot) bool { return x.Chapel == 6 }) {
		return
	}
	day := max(0, pickOne(r, s).Day)
	crews, _, _ := modelUse(h, l, s, day)
	for range 5 {
		minute := r.Intn(60)
		if n, e := allot.CrewsAt(h, l, s, day, minute); n != crews[minute] || e != api.OK {
			t.Fatal(h, l, s, day, minute, n, crews[minute], e)
		}
	}
}

// P7.7, P7.10: random bookings; what is booked is right, and nothing earlier is.
func TestRandomBookings(t *testing.T) {
	r := rand.New(rand.NewSource(12))
	booked := map[bool]int{}
	for range 800 {
		h := randomHall(r, 40)
		l := randomFunerals(r, h, r.Intn(9))
		got, e := allot.Book(h, l)
		var want []api.Slot
		for i := range l {
			want = append(want, modelEarliest(h, l[:i+1], want))
			booked[want[i] == none()]++
		}
		if !slices.Equal(got, want) || e != api.OK {
			t.Fatal(h, l, got, want, e)
		}
		if n, e := allot.Accept(h, l, got); n != -1 || e != api.OK {
			t.Fatal(h, l, got, n, e)
		}
	}
	if booked[true] < 100 || booked[false] < 100 {
		t.Error(booked)
	}
}

// P7.7, P7.10: random slots that are there already, also later ones and gaps between them.
func TestRandomEarliest(t *testing.T) {
	r := rand.New(rand.NewSource(13))
	found := map[bool]int{}
	for range 2500 {
		h := randomHall(r, 50)
		l := randomFunerals(r, h, 1+r.Intn(7))
		s := someRightSlots(r, h, l[:len(l)-1])
		f := l[len(l)-1]
		got, e := allot.Earliest(h, l[:len(l)-1], s, f)
		want := modelEarliest(h, l, s)
		found[want == none()]++
		if want == none() {
			checkError(t, "Earliest", []any{got}, e, api.ErrNone)
		} else if got != want || e != api.OK {
			t.Fatal(h, l, s, got, want, e)
		}
	}
	if found[true] < 100 || found[false] < 100 {
		t.Error(found)
	}
}

// someRightSlots returns slots that are right, of which few are the earliest ones.
func someRightSlots(r *rand.Rand, h api.Hall, l []api.Funeral) []api.Slot {
	var s []api.Slot
	for i := range l {
		at := none()
		for range 10 {
			try := slot(l[i].From+r.Intn(2), r.Intn(50), r.Intn(h.Chapels))
			if modelBreaks(h, l[:i+1], with(s, try)) == api.OK {
				at = try
			}
		}
		s = append(s, at)
	}
	return s
}

// P7.10: slots that are right need as many days as DaysNeeded says, and are right without any
// one of the funerals.
func TestConsequencesOfSlots(t *testing.T) {
	r := rand.New(rand.NewSource(14))
	just, more := 0, 0
	for range 6000 {
		h := randomHall(r, 30)
		l := randomFunerals(r, h, 1+r.Intn(7))
		for i := range l {
			l[i].Until += 10
		}
		s := someRightSlots(r, h, l)
		if r.Intn(2) == 0 {
			s, _ = allot.Book(h, l)
		}
		for i := range l {
			if n, e := allot.Accept(h, slices.Delete(slices.Clone(l), i, i+1), slices.Delete(slices.Clone(s), i, i+1)); n != -1 || e != api.OK {
				t.Fatal(h, l, s, i, n, e)
			}
		}
		need, e := allot.DaysNeeded(h, l)
		if h.Open == [7][2]int{} {
			checkError(t, "DaysNeeded", []any{need}, e, api.ErrNone)
			continue
		}
		if e != api.OK || need != modelDays(h, l) {
			t.Fatal(h, l, need, e)
		}
		if slices.Contains(s, none()) {
			continue
		}
		switch n := len(daysOf(s)); {
		case n < need:
			t.Fatal(h, l, s, need)
		case n == need:
			just++
		default:
			more++
		}
	}
	if just < 100 || more < 100 {
		t.Error(just, more)
	}
}

// daysOf returns the different days of slots.
func daysOf(s []api.Slot) []int {
	var l []int
	for _, x := range s {
		l = append(l, x.Day)
	}
	slices.Sort(l)
	return slices.Compact(l)
}

// P7.10: Parse undoes Print.
func TestRandomTexts(t *testing.T) {
	r := rand.New(rand.NewSource(15))
	for range 3000 {
		h := randomHall(r, 60)
		l := randomFunerals(r, h, r.Intn(5))
		text, e := allot.Print(h, l)
		if e != api.OK {
			t.Fatal(h, l, e)
		}
		a, b, n, e := allot.Parse(text)
		if !equal(a, h) || !equal(b, l) || n != 0 || e != api.OK {
			t.Fatal(text, a, b, n, e)
		}
		again, _ := allot.Print(a, b)
		check(t, "Print", again, e, text)
	}
}
