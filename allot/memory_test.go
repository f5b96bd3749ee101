package allot_test

import (
	"math/rand"
	"reflect"
	"slices"
	"strings"
	"testing"

	"mortsafe/allot"
	"mortsafe/api"
)

// roomy returns a list with room behind its end, in which a careless append would write.
func roomy[T any](l []T, behind T) []T {
	l = append(slices.Clone(l), behind, behind, behind)
	return l[:len(l)-3]
}

// wholeOf returns a list with what is written behind its end.
func wholeOf[T any](l []T) []T { return l[:len(l)+3] }

// args are arguments of all functions.
type args struct {
	w      []api.Wish
	v      []api.Vacancy
	a      []int
	c      api.Cover
	h      api.Hall
	l      []api.Funeral
	s      []api.Slot
	f      api.Funeral
	day    int
	minute int
	t      string
}

func arguments() args {
	w := with(wishes(), api.Wish{Name: "d", Section: "new", Family: "smith", Day: 20}, api.Wish{Name: "e", Day: 11})
	h := change(wide(), func(h *api.Hall) { h.Crews, h.Machines, h.Pause, h.Closed = 2, 1, 10, []int{3, 6, 9} })
	return args{
		w: roomy(w, api.Wish{Name: "behind"}), v: roomy(vacancies(), api.Vacancy{Name: "behind"}), a: roomy([]int{1, -1, -1, 0, 2}, 77),
		c: api.Cover{Wishes: roomy([]int{0, 2, 3}, 77), Vacancies: roomy([]int{1, 2}, 77)},
		h: change(h, func(h *api.Hall) { h.Closed = roomy(h.Closed, 77) }), l: roomy(funerals(4), funeral("behind")),
		s: roomy(slots(slot(5, 600, 0), none(), slot(5, 600+180, 3), slot(7, 500, 5)), slot(7, 7, 7)),
		f: funeral("f"), day: 5, minute: 600, t: head() + "closed 5\nclosed 9\nfuneral a 5 7 60 120 1 1\nfuneral b 5 7 60 120 1 0\n",
	}
}

// everything is the results of all functions.
func everything(x args) []any {
	of := func(results ...any) []any { return results }
	var w api.Wish
	var v api.Vacancy
	if len(x.w) > 0 && len(x.v) > 0 {
		w, v = x.w[0], x.v[0]
	}
	return slices.Concat(
		of(allot.CheckWishes(x.w)), of(allot.CheckVacancies(x.v)), of(allot.Suits(w, v)), of(allot.Pairs(x.w, x.v)),
		of(allot.Allot(x.w, x.v)), of(allot.CheckAllot(x.w, x.v, x.a)), of(allot.CheckCover(x.w, x.v, x.c)),
		of(allot.NewGraves(x.w, x.v)), of(allot.InOrder(x.w, x.v)), of(allot.First(x.w, x.v)), of(allot.Left(x.w, x.v, x.a)),
		of(allot.CheckHall(x.h)), of(allot.CheckFunerals(x.h, x.l)), of(allot.OpenOn(x.h, x.day)), of(allot.Accept(x.h, x.l, x.s)),
		of(allot.Earliest(x.h, x.l, x.s, x.f)), of(allot.Book(x.h, x.l)), of(allot.CrewsAt(x.h, x.l, x.s, x.day, x.minute)),
		of(allot.DaysNeeded(x.h, x.l)), of(allot.Print(x.h, x.l)), of(allot.Parse(x.t)),
	)
}

// withRoom are arguments with what is written behind their ends.
func withRoom(x args) args {
	x.w, x.v, x.a, x.l, x.s = wholeOf(x.w), wholeOf(x.v), wholeOf(x.a), wholeOf(x.l), wholeOf(x.s)
	x.c.Wishes, x.c.Vacancies, x.h.Closed = wholeOf(x.c.Wishes), wholeOf(x.c.Vacancies), wholeOf(x.h.Closed)
	return x
}

// R3 (P1): no function writes into its arguments, or behind them.
func TestArgumentsStay(t *testing.T) {
	x := arguments()
	for i, result := range everything(x) {
		if e, is := result.(api.Errno); is && e != api.OK {
			t.Error(i, e)
		}
	}
	if got, want := withRoom(x), withRoom(arguments()); !reflect.DeepEqual(got, want) {
		t.Error(got, want)
	}
}

// spoil fills a list, up to its capacity, with zeros, and all lists in it.
func spoil(v reflect.Value) {
	switch v.Kind() {
	case reflect.Slice:
		all := v.Slice(0, v.Cap())
		for i := range all.Len() {
			if i < v.Len() {
				spoil(all.Index(i))
			}
			all.Index(i).SetZero()
		}
	case reflect.Struct:
		for i := range v.NumField() {
			spoil(v.Field(i))
		}
	}
}

// R3 (P1): writing into results, or behind them, changes no argument and no other result.
func TestResultsAreApart(t *testing.T) {
	x := arguments()
	first, want := everything(x), everything(arguments())
	for _, result := range everything(x) {
		spoil(reflect.ValueOf(result))
	}
	if !reflect.DeepEqual(first, want) || !reflect.DeepEqual(everything(x), want) {
		t.Error(first)
	}
	if got, args := withRoom(x), withRoom(arguments()); !reflect.DeepEqual(got, args) {
		t.Error(got, args)
	}
}

// listsOf returns all lists in results, each one by itself.
func listsOf(v reflect.Value) []reflect.Value {
	var l []reflect.Value
	switch v.Kind() {
	case reflect.Interface:
		return listsOf(v.Elem())
	case reflect.Slice:
		l = append(l, v)
		for i := range v.Len() {
			l = append(l, listsOf(v.Index(i))...)
		}
	case reflect.Struct:
		for i := range v.NumField() {
			l = append(l, listsOf(v.Field(i))...)
		}
	}
	return l
}

// R3 (P1): the lists of one result are apart, too: no two of them have memory in common,
// also behind their ends.
func TestListsOfOneResultAreApart(t *testing.T) {
	x := arguments()
	for _, ask := range []func() []any{
		func() []any { l, _ := allot.Pairs(x.w, x.v); return []any{l} },
		func() []any { l, _ := allot.Pairs(plainWishes(60), plainRooms(1, 2, 3)); return []any{l} },
		func() []any { a, c, _ := allot.Allot(x.w, x.v); return []any{a, c} },
		func() []any { a, c, _ := allot.Allot(wishes(), vacancies()); return []any{a, c} },
		func() []any { h, l, _, _ := allot.Parse(x.t); return []any{h, l} },
	} {
		taken := map[uintptr]bool{}
		lists := listsOf(reflect.ValueOf(ask()))
		if len(lists) < 3 {
			t.Fatal(lists)
		}
		for _, l := range lists {
			size := l.Type().Elem().Size()
			for i := range uintptr(l.Cap()) {
				if at := l.Pointer() + i*size; taken[at] {
					t.Fatal("shared", l)
				} else {
					taken[at] = true
				}
			}
		}
	}
}

// R4 (P1): the same arguments give the same results.
func TestResultsAreRepeated(t *testing.T) {
	first := everything(arguments())
	for range 30 {
		if got := everything(arguments()); !reflect.DeepEqual(got, first) {
			t.Fatal(got, first)
		}
	}
}

// R5 (P1): nil lists and empty ones are the same.
func TestNoLists(t *testing.T) {
	h := hall()
	for _, closed := range [][]int{nil, {}} {
		h.Closed = closed
		for _, x := range []args{
			{h: h, f: funeral("f"), t: head()},
			{w: []api.Wish{}, v: []api.Vacancy{}, a: []int{}, c: cover([]int{}, []int{}), h: h, l: []api.Funeral{}, s: []api.Slot{}, f: funeral("f"), t: head()},
		} {
			got := everything(x)
			want := []any{
				api.OK, api.OK, false, api.ErrName, [][]int{}, api.OK, []int{}, api.Cover{}, api.OK, 0, api.OK, 0, api.OK,
				0, api.OK, []int{}, api.OK, []int{}, api.OK, []int{}, api.OK, api.OK, api.OK, [2]int{480, 960}, api.OK, -1, api.OK,
				slot(5, 600, 0), api.OK, []api.Slot{}, api.OK, 0, api.OK, 0, api.OK, head(), api.OK, hall(), []api.Funeral{}, 0, api.OK,
			}
			if len(got) != len(want) {
				t.Fatal(len(got), len(want))
			}
			for i := range want {
				if !equal(got[i], want[i]) {
					t.Error(i, got[i], want[i])
				}
			}
		}
	}
}

// R2 (P1): large arguments end soon, and nothing panics.
func TestLargeArguments(t *testing.T) {
	const many = 1 << 20
	x := args{
		w: make([]api.Wish, many), v: make([]api.Vacancy, many), a: make([]int, many), c: cover(make([]int, many), make([]int, many)),
		h: change(hall(), func(h *api.Hall) { h.Closed = make([]int, many) }), l: make([]api.Funeral, many), s: make([]api.Slot, many),
		t: strings.Repeat("hall ", many),
	}
	for _, result := range everything(x) {
		if e, is := result.(api.Errno); is && e != api.ErrLarge && e != api.ErrName {
			t.Error(e)
		}
	}
	x.w, x.v, x.h, x.l = plainWishes(60), plainRooms(make([]int, 60)...), hall(), funerals(29)
	_, shape := allot.CheckAllot(x.w, x.v, x.a)
	_, order := allot.CheckCover(x.w, x.v, x.c)
	_, slots := allot.Accept(x.h, x.l, x.s)
	_, crews := allot.CrewsAt(x.h, x.l, x.s, 0, 0)
	_, one := allot.Earliest(x.h, x.l, x.s, funeral("f"))
	_, _, line, text := allot.Parse("hall " + strings.Repeat("1 ", 29000) + "\n")
	if shape != api.ErrShape || order != api.ErrOrder || slots != api.ErrShape || crews != api.ErrShape || one != api.ErrShape || line != 1 || text != api.ErrSyntax {
		t.Error(shape, order, slots, crews, one, line, text)
	}
}

// R2 (P1): the largest arguments that are right end soon, too.
func TestMostOfAll(t *testing.T) {
	w := repeat(60, func(i int) api.Wish { return api.Wish{Name: "w" + letters(i), Day: i} })
	v := repeat(60, func(i int) api.Vacancy {
		return api.Vacancy{Name: "v" + letters(i), Section: "s", From: 60 - i, Room: 1 + i%2*19}
	})
	checkPlaced(t, "most places", w, v, 59)
	h := change(wide(), func(h *api.Hall) { h.Crews, h.Closed = 1, days(60) })
	l := repeat(30, func(i int) api.Funeral {
		return api.Funeral{Name: letters(i), From: 100, Until: 100, Service: 1, Crews: 1}
	})
	for i := range 3 {
		l[i].Service = 480
	}
	got, e := allot.Book(h, l)
	want := append(slots(slot(100, 0, 0), slot(100, 480, 0), slot(100, 960, 0)), repeat(27, func(int) api.Slot { return none() })...)
	check(t, "most funerals", got, e, want)
}

// letters returns another name for each number.
func letters(i int) string { return string(rune('a'+i/26)) + string(rune('a'+i%26)) }

// R2 (P1): whatever the arguments are, all functions end and do not panic.
func TestAnyArguments(t *testing.T) {
	r := rand.New(rand.NewSource(16))
	anyNumber := func(int) int {
		if r.Intn(40) == 0 {
			return pickOne(r, extremes)
		}
		return r.Intn(5)
	}
	anyName := func() string {
		if r.Intn(40) == 0 {
			return pickOne(r, wrongNames)
		}
		return pickOne(r, []string{"a", "b", "c", "d", "e", "f", "g"})
	}
	anyFuneral := func(int) api.Funeral {
		return api.Funeral{Name: anyName(), From: anyNumber(0), Until: 5 + anyNumber(0), Service: anyNumber(0) + 1, Dig: anyNumber(0), Crews: anyNumber(0), Machine: r.Intn(2) == 0}
	}
	errors := map[api.Errno]int{}
	for range 20000 {
		x := args{
			w: repeat(r.Intn(4), func(int) api.Wish {
				return api.Wish{Name: anyName(), Family: anyName(), Section: anyName(), Kind: anyNumber(0), Day: anyNumber(0)}
			}),
			v: repeat(r.Intn(4), func(int) api.Vacancy {
				return api.Vacancy{Name: anyName(), Family: anyName(), Section: anyName(), Kind: anyNumber(0), Room: anyNumber(0), From: anyNumber(0)}
			}),
			a: repeat(r.Intn(4), anyNumber), c: cover(repeat(r.Intn(4), anyNumber), repeat(r.Intn(4), anyNumber)),
			h: api.Hall{Chapels: 1 + anyNumber(0), Crews: 1 + anyNumber(0), Machines: anyNumber(0), Pause: anyNumber(0), Closed: repeat(r.Intn(3), anyNumber)},
			l: repeat(r.Intn(4), anyFuneral), f: anyFuneral(0), day: anyNumber(0), minute: anyNumber(0),
			t: strings.Join([]string{head(), "closed", "funeral"}, pickOne(r, []string{"\n", " ", " 1", " 1 1"})),
		}
		x.s = repeat(len(x.l), func(int) api.Slot { return slot(anyNumber(0), anyNumber(0), anyNumber(0)) })
		for i := range x.h.Open {
			x.h.Open[i] = [2]int{anyNumber(0), 4 + anyNumber(0)}
		}
		for _, result := range everything(x) {
			if e, is := result.(api.Errno); is {
				errors[e]++
			}
		}
	}
	if len(errors) < 15 {
		t.Error(errors)
	}
}
