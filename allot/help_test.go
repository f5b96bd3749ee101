package allot_test

import (
	"math"
	"math/rand"
	"reflect"
	"slices"
	"strconv"
	"testing"

	"mortsafe/allot"
	"mortsafe/api"
)

// extremes are numbers that no function may stumble over.
var extremes = []int{math.MinInt, math.MinInt + 1, -1, math.MaxInt - 1, math.MaxInt}

// wrongNames are texts that are no names.
var wrongNames = []string{"-", "1", "-a", "1a", "a b", " ", "a ", " a", "a\n", "a.", "a_b", "a(", "é", "aé", "a\x00", "\xff", "abcdefghijklm"}

// rightNames are names.
var rightNames = []string{"a", "Z", "ann", "a-", "a1", "A-9-z", "abcdefghijkl", "hall", "open", "closed"}

// wishes and vacancies are those of the chapter's first example.
func wishes() []api.Wish {
	return []api.Wish{
		{Name: "a", Family: "smith", Day: 10},
		{Name: "b", Section: "old", Day: 10},
		{Name: "c", Day: 10},
	}
}

func vacancies() []api.Vacancy {
	return []api.Vacancy{
		{Name: "s1", Family: "smith", Section: "new", Room: 1, From: 5},
		{Name: "o1", Section: "old", Room: 1},
		{Name: "o2", Section: "old", Room: 2, From: 11},
	}
}

// turned are the vacancies of the second example.
func turned() []api.Vacancy {
	v := vacancies()
	v[0], v[1] = v[1], v[0]
	return v
}

// plainWishes returns wishes that suit each of plainRooms.
func plainWishes(n int) []api.Wish {
	return repeat(n, func(i int) api.Wish { return api.Wish{Name: "w" + strconv.Itoa(i)} })
}

// plainRooms returns vacancies with rooms, which suit each of plainWishes.
func plainRooms(rooms ...int) []api.Vacancy {
	return repeat(len(rooms), func(i int) api.Vacancy {
		return api.Vacancy{Name: "v" + strconv.Itoa(i), Section: "s", Room: rooms[i]}
	})
}

// staircase returns wishes of days: a wish suits the steps of its day and of earlier ones.
func staircase(days ...int) []api.Wish {
	return repeat(len(days), func(i int) api.Wish { return api.Wish{Name: "w" + strconv.Itoa(i), Day: days[i]} })
}

// steps returns vacancies with the room 1, free from days on.
func steps(days ...int) []api.Vacancy {
	return repeat(len(days), func(i int) api.Vacancy {
		return api.Vacancy{Name: "v" + strconv.Itoa(i), Section: "s", Room: 1, From: days[i]}
	})
}

// hall is that of the third example: day 5 is a Monday.
func hall() api.Hall {
	h := api.Hall{Chapels: 1, Crews: 1, Machines: 1, Pause: 30}
	for i := range 5 {
		h.Open[i] = [2]int{480, 960}
	}
	return h
}

// wide is a hall that is always open and has all that a hall can have.
func wide() api.Hall {
	h := api.Hall{Chapels: 6, Crews: 10, Machines: 5}
	for i := range h.Open {
		h.Open[i] = [2]int{0, 1440}
	}
	return h
}

// funeral is that of the third example.
func funeral(name string) api.Funeral {
	return api.Funeral{Name: name, From: 5, Until: 7, Service: 60, Dig: 120, Crews: 1, Machine: true}
}

func funerals(n int) []api.Funeral {
	return repeat(n, func(i int) api.Funeral { return funeral("f" + strconv.Itoa(i)) })
}

// plain is a funeral that takes a chapel alone.
func plain(name string, service int) api.Funeral {
	return api.Funeral{Name: name, Until: 60, Service: service}
}

func slot(day, minute, chapel int) api.Slot {
	return api.Slot{Day: day, Minute: minute, Chapel: chapel}
}

// none is the slot of a funeral that has none.
func none() api.Slot { return slot(-1, 0, 0) }

// change returns a value with a change.
func change[T any](x T, how func(*T)) T {
	how(&x)
	return x
}

// check compares a result, and expects no error.
func check(t *testing.T, what string, got any, e api.Errno, want any) {
	t.Helper()
	if !equal(got, want) || e != api.OK {
		t.Errorf("%s: %v %d, not %v", what, got, e, want)
	}
}

// checkError compares an error, beside which there must be no result.
func checkError(t *testing.T, what string, results []any, e, want api.Errno) {
	t.Helper()
	if e != want || slices.ContainsFunc(results, isSomething) {
		t.Errorf("%s: %v %d, not %d", what, results, e, want)
	}
}

// equal compares two values, of which nil and empty lists are the same.
func equal(a, b any) bool { return alike(reflect.ValueOf(a), reflect.ValueOf(b)) }

func alike(a, b reflect.Value) bool {
	if a.Type() != b.Type() {
		return false
	}
	switch a.Kind() {
	case reflect.Slice:
		if a.Len() != b.Len() {
			return false
		}
		for i := range a.Len() {
			if !alike(a.Index(i), b.Index(i)) {
				return false
			}
		}
		return true
	case reflect.Struct:
		for i := range a.NumField() {
			if !alike(a.Field(i), b.Field(i)) {
				return false
			}
		}
		return true
	}
	return a.Interface() == b.Interface()
}

// isSomething tells whether a result is neither a zero value nor an empty list.
func isSomething(result any) bool {
	return !equal(result, reflect.Zero(reflect.TypeOf(result)).Interface())
}

// with returns a list with something else behind it, in memory of its own.
func with[T any](l []T, further ...T) []T { return slices.Concat(l, further) }

func repeat[T any](n int, what func(i int) T) []T {
	var l []T
	for i := range n {
		l = append(l, what(i))
	}
	return l
}

func pickOne[T any](r *rand.Rand, l []T) T { return l[r.Intn(len(l))] }

// results parts what a function returned from its error.
func results(l ...any) ([]any, api.Errno) {
	return l[:len(l)-1], l[len(l)-1].(api.Errno)
}

// asked is a function with other arguments that are right.
type asked[T any] struct {
	what string
	ask  func(x T) ([]any, api.Errno)
}

// places are the arguments of a function of wishes and vacancies.
type places struct {
	w []api.Wish
	v []api.Vacancy
}

// allOfPlaces are all functions of wishes and vacancies. The further arguments are wrong, so
// that the errors of wishes and vacancies have to be told before theirs.
func allOfPlaces() []asked[places] {
	wrong := repeat(100, func(int) int { return 77 })
	return []asked[places]{
		{"Pairs", func(x places) ([]any, api.Errno) { return results(allot.Pairs(x.w, x.v)) }},
		{"Allot", func(x places) ([]any, api.Errno) { return results(allot.Allot(x.w, x.v)) }},
		{"CheckAllot", func(x places) ([]any, api.Errno) { return results(allot.CheckAllot(x.w, x.v, wrong)) }},
		{"CheckCover", func(x places) ([]any, api.Errno) {
			return results(allot.CheckCover(x.w, x.v, api.Cover{Wishes: wrong, Vacancies: wrong}))
		}},
		{"NewGraves", func(x places) ([]any, api.Errno) { return results(allot.NewGraves(x.w, x.v)) }},
		{"InOrder", func(x places) ([]any, api.Errno) { return results(allot.InOrder(x.w, x.v)) }},
		{"First", func(x places) ([]any, api.Errno) { return results(allot.First(x.w, x.v)) }},
		{"Left", func(x places) ([]any, api.Errno) { return results(allot.Left(x.w, x.v, wrong)) }},
	}
}

// booked are the arguments of a function of a hall and funerals.
type booked struct {
	h api.Hall
	l []api.Funeral
}

// allOfFunerals are all functions of a hall and funerals, with further arguments that are
// wrong.
func allOfFunerals() []asked[booked] {
	wrong := repeat(100, func(int) api.Slot { return slot(77, -77, 77) })
	return []asked[booked]{
		{"CheckFunerals", func(x booked) ([]any, api.Errno) { return results(allot.CheckFunerals(x.h, x.l)) }},
		{"Accept", func(x booked) ([]any, api.Errno) { return results(allot.Accept(x.h, x.l, wrong)) }},
		{"Earliest", func(x booked) ([]any, api.Errno) {
			return results(allot.Earliest(x.h, x.l, wrong, api.Funeral{Name: "-"}))
		}},
		{"Book", func(x booked) ([]any, api.Errno) { return results(allot.Book(x.h, x.l)) }},
		{"CrewsAt", func(x booked) ([]any, api.Errno) { return results(allot.CrewsAt(x.h, x.l, wrong, -1, -1)) }},
		{"DaysNeeded", func(x booked) ([]any, api.Errno) { return results(allot.DaysNeeded(x.h, x.l)) }},
		{"Print", func(x booked) ([]any, api.Errno) { return results(allot.Print(x.h, x.l)) }},
	}
}

// checkAll expects an error of all functions.
func checkAll[T any](t *testing.T, what string, all []asked[T], x T, want api.Errno) {
	t.Helper()
	for _, f := range all {
		got, e := f.ask(x)
		checkError(t, f.what+" of "+what, got, e, want)
	}
}
