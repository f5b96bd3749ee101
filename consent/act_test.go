package consent_test

import (
	"strings"
	"testing"

	"mortsafe/api"
	"mortsafe/consent"
)

// example is the acts of the chapter's example 6.
func example() []api.Act { return acts(sign(5, "b"), refuse(7, "a"), sign(9, "c")) }

// P6.8: what is right.
func TestRightActs(t *testing.T) {
	lists := [][]api.Act{
		nil, {}, example(),
		acts(sign(0, "a"), unsign(0, "a"), refuse(0, "a"), relent(0, "a"), sign(0, "a")),
		acts(refuse(1, "a"), relent(1, "a"), refuse(1, "a"), refuse(1, "b"), sign(1, "A")),
		acts(sign(0, "a"), sign(200000, "b"), unsign(200000, "a")),
		repeat(100, func(i int) api.Act { return sign(i/7, letters(100)[i]) }),
		repeat(100, func(i int) api.Act { return act(3, i%4, "a") }),
	}
	for _, l := range lists {
		if e := consent.CheckActs(l); e != api.OK {
			t.Error(l, e)
		}
	}
	for _, name := range rightNames {
		if e := consent.CheckActs(acts(sign(1, name))); e != api.OK {
			t.Error(name, e)
		}
	}
}

// wrongAct is an act that is wrong behind those of the example, with its error.
type wrongAct struct {
	a api.Act
	e api.Errno
}

func wrongActs() []wrongAct {
	l := []wrongAct{
		{act(-1, 4, "1"), api.ErrRange},
		{act(200001, 4, "1"), api.ErrRange},
		{sign(-1, "d"), api.ErrRange},
		{sign(200001, "d"), api.ErrRange},
		{act(8, 4, "1"), api.ErrOrder},
		{sign(8, "d"), api.ErrOrder},
		{sign(0, "b"), api.ErrOrder},
		{act(9, 4, "1"), api.ErrKind},
		{act(9, -1, "b"), api.ErrKind},
		{act(200000, 4, "d"), api.ErrKind},
		{sign(9, "b"), api.ErrState},
		{sign(9, "a"), api.ErrState},
		{refuse(9, "b"), api.ErrState},
		{refuse(9, "a"), api.ErrState},
		{unsign(9, "a"), api.ErrState},
		{unsign(9, "d"), api.ErrState},
		{unsign(9, "B"), api.ErrState},
		{relent(9, "b"), api.ErrState},
		{relent(9, "d"), api.ErrState},
	}
	for _, name := range wrongNames {
		for kind := range 4 {
			l = append(l, wrongAct{act(9, kind, name), api.ErrName})
		}
	}
	for _, n := range extremes {
		l = append(l, wrongAct{sign(n, "d"), api.ErrRange}, wrongAct{act(9, n, "d"), api.ErrKind})
	}
	return l
}

// P6.8: each error of acts, in their order; the first wrong act decides.
func TestWrongActs(t *testing.T) {
	for _, x := range wrongActs() {
		for _, further := range wrongActs() {
			l := with(example(), x.a, further.a)
			if e := consent.CheckActs(l); e != x.e {
				t.Fatalf("%v: %d, not %d", l, e, x.e)
			}
		}
		l := with(example(), x.a)
		if e := consent.CheckActs(l); e != x.e {
			t.Errorf("%v: %d, not %d", l, e, x.e)
		}
		for _, day := range []int{0, -1} {
			signed, refused, e := consent.Signed(l, day)
			checkError(t, "Signed", []any{signed, refused}, e, x.e)
			n, set, e := consent.State(abc(), l, day)
			checkError(t, "State", []any{n, set}, e, x.e)
			day, e = consent.FirstDay(abc(), l)
			checkError(t, "FirstDay", []any{day}, e, x.e)
			day, e = consent.FirstDay(needless(), l)
			checkError(t, "FirstDay", []any{day}, e, x.e)
		}
	}
	for _, l := range [][]api.Act{acts(act(5, 1, "a")), acts(relent(5, "a")), acts(sign(5, "a"), unsign(5, "a"), unsign(5, "a")), acts(refuse(5, "a"), relent(5, "a"), relent(5, "a"))} {
		if e := consent.CheckActs(l); e != api.ErrState {
			t.Error(l, e)
		}
	}
}

// P6.8: too many acts come before all other errors.
func TestManyActs(t *testing.T) {
	names := letters(101)
	many := repeat(101, func(i int) api.Act { return sign(5, names[i]) })
	for _, l := range [][]api.Act{many, with(many[:100], sign(-1, "1")), make([]api.Act, 101), make([]api.Act, 1<<20)} {
		if e := consent.CheckActs(l); e != api.ErrLarge {
			t.Error(e)
		}
		signed, refused, e := consent.Signed(l, -1)
		checkError(t, "Signed", []any{signed, refused}, e, api.ErrLarge)
		n, set, e := consent.State(someOf(3, strings.Join(names[:13], " ")), l, -1)
		checkError(t, "State", []any{n, set}, e, api.ErrLarge)
		day, e := consent.FirstDay(abc(), l)
		checkError(t, "FirstDay", []any{day}, e, api.ErrLarge)
	}
	if e := consent.CheckActs(many[:100]); e != api.OK {
		t.Error(e)
	}
}

// P6.8: who has signed and who has refused, day by day.
func TestSigned(t *testing.T) {
	l := acts(
		sign(5, "c"), sign(5, "a"), refuse(6, "z"), refuse(6, "b"), unsign(8, "a"), refuse(8, "a"), relent(8, "z"),
		sign(9, "z"), unsign(9, "z"), sign(9, "z"), unsign(10, "c"), relent(10, "b"), sign(200000, "B"),
	)
	days := []struct {
		day             int
		signed, refused string
	}{
		{0, "", ""}, {4, "", ""}, {5, "a c", ""}, {6, "a c", "b z"}, {7, "a c", "b z"}, {8, "c", "a b"}, {9, "c z", "a b"}, {10, "z", "a"}, {199999, "z", "a"}, {200000, "B z", "a"},
	}
	for _, x := range days {
		signed, refused, e := consent.Signed(l, x.day)
		check(t, "who signed", signed, e, words(x.signed))
		check(t, "who refused", refused, e, words(x.refused))
	}
	for _, day := range with(extremes, 200001) {
		signed, refused, e := consent.Signed(l, day)
		checkError(t, "Signed", []any{signed, refused}, e, api.ErrRange)
		signed, refused, e = consent.Signed(nil, day)
		checkError(t, "Signed", []any{signed, refused}, e, api.ErrRange)
	}
	names := letters(100)
	for kind := range 2 {
		all := repeat(100, func(i int) api.Act { return act(1, 2*kind, names[99-i]) })
		signed, refused, e := consent.Signed(all, 1)
		check(t, "a hundred", [][]string{signed, refused}[kind], e, names)
		check(t, "nobody", [][]string{signed, refused}[1-kind], e, []string(nil))
	}
}

// P6.9: states of collections, day by day.
func TestState(t *testing.T) {
	blocking := acts(sign(5, "b"), refuse(7, "a"), refuse(9, "c"), relent(10, "a"))
	states := []struct {
		r     api.Rule
		l     []api.Act
		day   int
		state int
		set   string
	}{
		{abc(), example(), 0, 0, ""},
		{abc(), example(), 8, 0, ""},
		{abc(), example(), 9, 1, "b c"},
		{abc(), example(), 200000, 1, "b c"},
		{abc(), blocking, 8, 0, ""},
		{abc(), blocking, 9, 2, "a c"},
		{abc(), blocking, 10, 0, ""},
		{abc(), nil, 0, 0, ""},
		{abc(), acts(sign(0, "c"), sign(0, "b"), sign(0, "a")), 0, 1, "a"},
		{abc(), acts(sign(0, "c"), sign(0, "b"), unsign(0, "b")), 0, 0, ""},
		{abc(), acts(refuse(0, "c"), refuse(0, "b"), refuse(0, "a")), 0, 2, "a b"},
		{abc(), acts(refuse(0, "c"), refuse(0, "b"), sign(0, "a"), sign(1, "x")), 0, 1, "a"},
		{anyOf(person("b"), allOf(persons("a c")...)), acts(sign(1, "b"), sign(1, "c"), sign(2, "a")), 1, 1, "b"},
		{anyOf(person("b"), allOf(persons("a c")...)), acts(sign(1, "b"), sign(1, "c"), sign(2, "a")), 2, 1, "a c"},
		{someOf(2, "d c b a"), acts(sign(1, "d"), sign(1, "b"), sign(1, "c")), 1, 1, "b c"},
		{someOf(3, "d c b a"), acts(refuse(1, "d"), refuse(1, "b"), refuse(1, "c")), 1, 2, "b c"},
		{needless(), nil, 0, 1, ""},
		{needless(), acts(refuse(5, "a")), 9, 1, ""},
		{never(), nil, 0, 2, ""},
		{never(), acts(sign(5, "a")), 9, 2, ""},
		{someOf(3, "a b"), acts(sign(5, "a"), sign(5, "b")), 9, 2, ""},
		{someOf(0, "a b"), acts(sign(5, "a"), refuse(5, "b")), 9, 1, ""},
		{person("a"), acts(sign(5, "b"), refuse(5, "c")), 9, 0, ""},
	}
	for _, x := range states {
		n, set, e := consent.State(x.r, x.l, x.day)
		check(t, "State of "+text(x.r, 0), n, e, x.state)
		check(t, "the set of "+text(x.r, 0), set, e, words(x.set))
	}
	// more people act than a list of people may have
	all := repeat(100, func(i int) api.Act { return sign(1, letters(100)[99-i]) })
	n, set, e := consent.State(person("aa"), all, 1)
	check(t, "State of a hundred", set, e, words("aa"))
	check(t, "its number", n, e, 1)
	day, e := consent.FirstDay(person("aa"), all)
	check(t, "FirstDay of a hundred", day, e, 1)
}

// P6.9: the errors of State, in their order.
func TestWrongState(t *testing.T) {
	large := someOf(3, strings.Join(letters(13), " "))
	wrong := acts(sign(1, "a"), sign(1, "a"))
	for _, w := range wrongNodes() {
		n, set, e := consent.State(w.r, wrong, -1)
		checkError(t, "State", []any{n, set}, e, w.e)
		day, e := consent.FirstDay(w.r, wrong)
		checkError(t, "FirstDay", []any{day}, e, w.e)
	}
	n, set, e := consent.State(large, wrong, -1)
	checkError(t, "State", []any{n, set}, e, api.ErrState)
	for _, day := range with(extremes, 200001) {
		n, set, e = consent.State(large, example(), day)
		checkError(t, "State", []any{n, set}, e, api.ErrRange)
		n, set, e = consent.State(needless(), nil, day)
		checkError(t, "State", []any{n, set}, e, api.ErrRange)
	}
	n, set, e = consent.State(large, example(), 9)
	checkError(t, "State", []any{n, set}, e, api.ErrLarge)
	day, e := consent.FirstDay(large, wrong)
	checkError(t, "FirstDay", []any{day}, e, api.ErrState)
}

// P6.9: the first day on which the signatures are enough.
func TestFirstDay(t *testing.T) {
	lists := []struct {
		r    api.Rule
		l    []api.Act
		want int
	}{
		{abc(), example(), 9},
		{abc(), acts(sign(5, "b"), sign(7, "c"), sign(8, "a")), 7},
		{abc(), acts(sign(0, "a")), 0},
		{abc(), acts(sign(200000, "a")), 200000},
		// what is withdrawn on the same day does not count
		{abc(), acts(sign(5, "a"), unsign(5, "a"), sign(6, "c"), sign(8, "b")), 8},
		{abc(), acts(sign(5, "a"), unsign(5, "a"), sign(5, "a")), 5},
		// what is withdrawn later does
		{abc(), acts(sign(5, "a"), unsign(6, "a"), refuse(6, "a"), sign(7, "b"), sign(7, "c")), 5},
		{abc(), acts(refuse(1, "a"), refuse(1, "b"), relent(4, "b"), sign(4, "b"), sign(4, "c")), 4},
		{needless(), nil, 0},
		{needless(), acts(sign(5, "a")), 0},
		{someOf(0, "a b"), acts(refuse(5, "a")), 0},
		{someOf(13, strings.Join(letters(13), " ")), repeat(13, func(i int) api.Act { return sign(10+i, letters(13)[i]) }), 22},
		{someOf(39, strings.Join(letters(39), " ")), repeat(100, func(i int) api.Act { return sign(10+i, letters(100)[i]) }), 48},
	}
	for _, x := range lists {
		day, e := consent.FirstDay(x.r, x.l)
		check(t, "FirstDay of "+text(x.r, 0), day, e, x.want)
	}
	for _, r := range []api.Rule{abc(), never(), person("d"), someOf(14, strings.Join(letters(14), " "))} {
		for _, l := range [][]api.Act{nil, acts(sign(5, "b")), acts(sign(5, "a"), unsign(5, "a")), acts(refuse(5, "a"), refuse(5, "b"))} {
			day, e := consent.FirstDay(r, l)
			checkError(t, "FirstDay", []any{day}, e, api.ErrNone)
		}
	}
}
