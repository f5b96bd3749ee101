package person_test

import (
	"strings"
	"testing"

	"mortsafe/api"
	"mortsafe/person"
)

// linking is links with dual values.
func linking(pairs [][2]int, u, v []int) api.Linking { return api.Linking{Pairs: pairs, U: u, V: v} }

func pairs(l ...[2]int) [][2]int { return l }

// checkLinked links two lists, and has the links accepted.
func checkLinked(t *testing.T, a, b []api.Note, least, want int) api.Linking {
	t.Helper()
	k, n, e := person.Link(a, b, least)
	if n != want || e != api.OK {
		t.Error("Link", n, e, "want", want)
	}
	if len(k.U) != len(a) || len(k.V) != len(b) {
		t.Error("dual values", k)
	}
	if n, e := person.CheckLink(a, b, least, k); n != want || e != api.OK {
		t.Error("CheckLink", k, n, e, "want", want)
	}
	return k
}

// P4.4: the chapter's example 4: the greatest score is not linked, since both others
// together are worth more.
func TestExampleOfLinks(t *testing.T) {
	for i, row := range [][2]int{{50, 40}, {45, 10}} {
		for k, want := range row {
			if n, _, e := person.Score(rows()[i], columns()[k]); n != want || e != api.OK {
				t.Error(i, k, n, e)
			}
		}
	}
	k := checkLinked(t, rows(), columns(), 0, 85)
	if !equal(k.Pairs, pairs([2]int{0, 1}, [2]int{1, 0})) {
		t.Error(k.Pairs)
	}
	example := linking(k.Pairs, []int{40, 35}, []int{10, 0})
	if n, e := person.CheckLink(rows(), columns(), 0, example); n != 85 || e != api.OK {
		t.Error(n, e)
	}
	other := linking(pairs([2]int{0, 0}, [2]int{1, 1}), []int{40, 35}, []int{10, 0})
	if n, e := person.CheckLink(rows(), columns(), 0, other); n != 0 || e != api.ErrProof {
		t.Error(n, e)
	}
	turned := checkLinked(t, columns(), rows(), 0, 85)
	if !equal(turned.Pairs, pairs([2]int{0, 1}, [2]int{1, 0})) {
		t.Error(turned.Pairs)
	}
}

// P4.4: only scores that are greater than the least one are linked, and the value is
// what they are above it.
func TestLeastScores(t *testing.T) {
	tests := []struct {
		least, want int
		pairs       [][2]int
	}{
		{-1000, 2085, pairs([2]int{0, 1}, [2]int{1, 0})},
		{9, 67, pairs([2]int{0, 1}, [2]int{1, 0})},
		{30, 25, pairs([2]int{0, 1}, [2]int{1, 0})},
		{34, 17, pairs([2]int{0, 1}, [2]int{1, 0})},
		{36, 14, pairs([2]int{0, 0})},
		{39, 11, pairs([2]int{0, 0})},
		{40, 10, pairs([2]int{0, 0})},
		{41, 9, pairs([2]int{0, 0})},
		{49, 1, pairs([2]int{0, 0})},
		{50, 0, nil},
		{51, 0, nil},
		{1000, 0, nil},
	}
	for _, x := range tests {
		k := checkLinked(t, rows(), columns(), x.least, x.want)
		if !equal(k.Pairs, x.pairs) {
			t.Error(x.least, k)
		}
	}
}

// P4.4: lists of different lengths, and empty ones.
func TestLinksOfOtherShapes(t *testing.T) {
	a, c := named("Meier"), named("Maier")
	checkLinked(t, nil, nil, 0, 0)
	checkLinked(t, notes(a), nil, 0, 0)
	checkLinked(t, nil, notes(a, c), -1000, 0)
	if k := checkLinked(t, notes(a), notes(c, a), 0, 120); !equal(k.Pairs, pairs([2]int{0, 1})) {
		t.Error(k)
	}
	if k := checkLinked(t, notes(c, a), notes(a), 0, 120); !equal(k.Pairs, pairs([2]int{1, 0})) {
		t.Error(k)
	}
	eight := repeat(8, always(a))
	if k := checkLinked(t, eight, eight, -1000, 8*1120); len(k.Pairs) != 8 {
		t.Error(k)
	}
	if k := checkLinked(t, eight, eight[:3], 119, 3); len(k.Pairs) != 3 {
		t.Error(k)
	}
	if k := checkLinked(t, eight, eight, 120, 0); len(k.Pairs) != 0 {
		t.Error(k)
	}
	far := repeat(8, always(entry(strings.Repeat("b", 24), 200000, 200000, 200000, 200000)))
	if k := checkLinked(t, eight, far, -1000, 8*(1000-420-200)); len(k.Pairs) != 8 {
		t.Error(k)
	}
}

// badLists are arguments of Link and CheckLink with their error.
var badLists = []struct {
	what  string
	a, b  []api.Note
	least int
	want  api.Errno
}{
	{"wrong first list", notes(named("")), nil, 0, api.ErrSyntax},
	{"wrong second list", nil, notes(entry("a", 5, 4, 5, 5)), 0, api.ErrOrder},
	{"both", notes(entry("a", 0, api.MaxDay+1, 0, 0)), notes(named("")), 0, api.ErrRange},
	{"61 entries", repeat(61, always(named("a"))), notes(named("")), 0, api.ErrLarge},
	{"9 entries on the left", repeat(9, always(named("a"))), nil, 0, api.ErrLarge},
	{"9 entries on the right", notes(named("a")), repeat(9, always(named("a"))), 0, api.ErrLarge},
	{"60 entries", nil, repeat(60, always(named("a"))), 0, api.ErrLarge},
	{"a wrong entry of 9", with(repeat(8, always(named("a"))), named("")), nil, 0, api.ErrSyntax},
	{"9 entries and a wrong second list", repeat(9, always(named("a"))), notes(named("")), 0, api.ErrSyntax},
	{"a wrong first list and 9 entries", notes(entry("a", 5, 5, 4, 4)), repeat(9, always(named("a"))), 0, api.ErrClash},
	{"a low least score", nil, nil, -1001, api.ErrRange},
	{"a high least score", rows(), columns(), 1001, api.ErrRange},
	{"9 entries and a high least score", nil, repeat(9, always(named("a"))), 1001, api.ErrLarge},
	{"a wrong list and a high least score", notes(named("")), nil, 1001, api.ErrSyntax},
	{"a wrong second list and a low least score", nil, notes(named("")), -1001, api.ErrSyntax},
}

// P4.4: the errors of Link, which are those of CheckLink, too, before its own ones.
func TestErrorsOfLink(t *testing.T) {
	wrong := linking(pairs([2]int{9, 9}), []int{-1}, []int{-1, 5, 7})
	for _, x := range badLists {
		k, n, e := person.Link(x.a, x.b, x.least)
		if k.Pairs != nil || k.U != nil || k.V != nil || n != 0 || e != x.want {
			t.Error(x.what, k, n, e)
		}
		if n, e := person.CheckLink(x.a, x.b, x.least, wrong); n != 0 || e != x.want {
			t.Error(x.what, n, e)
		}
	}
	for _, least := range extremes {
		if least == -1 {
			continue
		}
		if _, n, e := person.Link(rows(), columns(), least); n != 0 || e != api.ErrRange {
			t.Error(least, n, e)
		}
		if n, e := person.CheckLink(rows(), columns(), least, api.Linking{}); n != 0 || e != api.ErrRange {
			t.Error(least, n, e)
		}
	}
}

// P4.4: CheckLink of links on the lists of the chapter's example 4, least score 20: the
// gains are 30, 20 and 25, -10.
func TestCheckLink(t *testing.T) {
	best, u, v := pairs([2]int{0, 1}, [2]int{1, 0}), []int{20, 15}, []int{10, 0}
	tests := []struct {
		what  string
		k     api.Linking
		value int
		want  api.Errno
	}{
		{"the best ones", linking(best, u, v), 45, api.OK},
		{"other dual values", linking(best, []int{20, 16}, []int{9, 0}), 0, api.ErrProof},
		{"the greatest dual values of the right", linking(best, []int{20, 15}, []int{10, 0}), 45, api.OK},

		{"no dual values", linking(best, nil, nil), 0, api.ErrShape},
		{"few on the left", linking(best, u[:1], v), 0, api.ErrShape},
		{"few on the right", linking(best, u, v[:1]), 0, api.ErrShape},
		{"many on the left", linking(best, with(u, 0), v), 0, api.ErrShape},
		{"many on the right", linking(best, u, with(v, 0)), 0, api.ErrShape},
		{"as many in all", linking(best, with(u, 0), v[:1]), 0, api.ErrShape},
		{"few, and negative", linking(best, []int{-1}, v), 0, api.ErrShape},

		{"negative on the left", linking(best, []int{46, -1}, []int{0, 0}), 0, api.ErrRange},
		{"negative on the right", linking(best, []int{45, 1}, []int{0, -1}), 0, api.ErrRange},
		{"large on the left", linking(best, []int{10001, 15}, v), 0, api.ErrRange},
		{"large on the right", linking(best, u, []int{10, 10001}), 0, api.ErrRange},
		{"the largest ones", linking(best, []int{10000, 10000}, []int{10000, 10000}), 0, api.ErrProof},
		{"large, and wrong pairs", linking(pairs([2]int{2, 2}), []int{10001, 15}, v), 0, api.ErrRange},

		{"a row too many", linking(pairs([2]int{2, 0}), u, v), 0, api.ErrMissing},
		{"a column too many", linking(pairs([2]int{0, 2}), u, v), 0, api.ErrMissing},
		{"a negative row", linking(pairs([2]int{-1, 0}), u, v), 0, api.ErrMissing},
		{"a negative column", linking(pairs([2]int{0, -1}), u, v), 0, api.ErrMissing},
		{"a missing one behind a right one", linking(pairs([2]int{0, 1}, [2]int{1, 2}), u, v), 0, api.ErrMissing},
		{"missing before order", linking(pairs([2]int{1, 0}, [2]int{0, 2}), u, v), 0, api.ErrMissing},

		{"descending", linking(pairs([2]int{1, 0}, [2]int{0, 1}), u, v), 0, api.ErrOrder},
		{"descending columns of a row", linking(pairs([2]int{0, 1}, [2]int{0, 0}), u, v), 0, api.ErrOrder},
		{"twice", linking(pairs([2]int{0, 1}, [2]int{0, 1}), u, v), 0, api.ErrOrder},
		{"order before a low score", linking(pairs([2]int{1, 0}, [2]int{0, 0}), u, v), 0, api.ErrOrder},

		{"a column twice", linking(pairs([2]int{0, 0}, [2]int{1, 0}), u, v), 0, api.ErrExists},
		{"a row twice", linking(pairs([2]int{0, 0}, [2]int{0, 1}), u, v), 0, api.ErrExists},
		{"a column twice, with a low score", linking(pairs([2]int{0, 1}, [2]int{1, 1}), u, v), 0, api.ErrExists},
		{"a row twice, with a low score", linking(pairs([2]int{1, 0}, [2]int{1, 1}), u, v), 0, api.ErrExists},

		{"a low score", linking(pairs([2]int{1, 1}), u, v), 0, api.ErrForm},
		{"a low score behind a right one", linking(pairs([2]int{0, 0}, [2]int{1, 1}), u, v), 0, api.ErrForm},
		{"a low score before a missing one", linking(pairs([2]int{1, 1}, [2]int{2, 2}), u, v), 0, api.ErrForm},
		{"a low score before another order", linking(pairs([2]int{1, 1}, [2]int{0, 0}), u, v), 0, api.ErrForm},

		{"fewer links", linking(best[:1], u, v), 0, api.ErrProof},
		{"no links", linking(nil, u, v), 0, api.ErrProof},
		{"no links, no dual values", linking(nil, []int{0, 0}, []int{0, 0}), 0, api.ErrProof},
		{"another link", linking(pairs([2]int{0, 0}), []int{30, 0}, []int{0, 0}), 0, api.ErrProof},
		{"too small for 0-0", linking(best, []int{19, 16}, []int{10, 0}), 0, api.ErrProof},
		{"too small for 0-1", linking(best, []int{19, 15}, []int{11, 0}), 0, api.ErrProof},
		{"too small for 1-0", linking(best, []int{20, 14}, []int{10, 1}), 0, api.ErrProof},
		{"a greater sum", linking(best, []int{20, 15}, []int{10, 1}), 0, api.ErrProof},
		{"a smaller sum", linking(best, []int{20, 15}, []int{9, 0}), 0, api.ErrProof},
	}
	for _, x := range tests {
		if n, e := person.CheckLink(rows(), columns(), 20, x.k); n != x.value || e != x.want {
			t.Error(x.what, n, e)
		}
	}
}

// P4.4: a score that is the least one is no link, a greater one is.
func TestScoreOfTheLeast(t *testing.T) {
	a, c := notes(named("Meier")), notes(named("Maier")) // their score is 100
	one := pairs([2]int{0, 0})
	if n, e := person.CheckLink(a, c, 99, linking(one, []int{0}, []int{1})); n != 1 || e != api.OK {
		t.Error(n, e)
	}
	if n, e := person.CheckLink(a, c, 100, linking(one, []int{0}, []int{0})); n != 0 || e != api.ErrForm {
		t.Error(n, e)
	}
	if n, e := person.CheckLink(a, c, 100, linking(nil, []int{0}, []int{0})); n != 0 || e != api.OK {
		t.Error(n, e)
	}
	if n, e := person.CheckLink(a, c, 99, linking(nil, []int{0}, []int{0})); n != 0 || e != api.ErrProof {
		t.Error(n, e)
	}
}

// P4.4: dual values on the left or the right alone, and of lists of which one is empty.
func TestCheckLinkOfOtherShapes(t *testing.T) {
	a := notes(named("a"))
	tests := []struct {
		what  string
		a, b  []api.Note
		k     api.Linking
		value int
		want  api.Errno
	}{
		{"all on the left", a, a, linking(pairs([2]int{0, 0}), []int{120}, []int{0}), 120, api.OK},
		{"all on the right", a, a, linking(pairs([2]int{0, 0}), []int{0}, []int{120}), 120, api.OK},
		{"nothing at all", nil, nil, api.Linking{}, 0, api.OK},
		{"nothing on the right", a, nil, linking(nil, []int{0}, nil), 0, api.OK},
		{"nothing on the left", nil, a, linking(nil, nil, []int{0}), 0, api.OK},
		{"a dual value without need", a, nil, linking(nil, []int{1}, nil), 0, api.ErrProof},
		{"a pair with nothing", a, nil, linking(pairs([2]int{0, 0}), []int{0}, nil), 0, api.ErrMissing},
		{"nothing with a pair", nil, a, linking(pairs([2]int{0, 0}), nil, []int{0}), 0, api.ErrMissing},
		{"sides exchanged", a, nil, linking(nil, nil, []int{0}), 0, api.ErrShape},
	}
	for _, x := range tests {
		if n, e := person.CheckLink(x.a, x.b, 0, x.k); n != x.value || e != x.want {
			t.Error(x.what, n, e)
		}
	}
}

// P4.4: each pair is held against the one before it, and against all earlier ones.
func TestOrderOfPairs(t *testing.T) {
	l, u, v := repeat(4, always(named("a"))), repeat(4, always(120)), repeat(4, always(0))
	tests := []struct {
		pairs [][2]int
		want  api.Errno
	}{
		{pairs([2]int{0, 3}, [2]int{1, 2}, [2]int{2, 1}, [2]int{3, 0}), api.OK},
		{pairs([2]int{0, 0}, [2]int{2, 2}, [2]int{1, 1}), api.ErrOrder},
		{pairs([2]int{1, 1}, [2]int{2, 2}, [2]int{0, 0}), api.ErrOrder},
		{pairs([2]int{0, 0}, [2]int{1, 2}, [2]int{1, 1}), api.ErrOrder},
		{pairs([2]int{0, 0}, [2]int{1, 1}, [2]int{1, 1}), api.ErrOrder},
		{pairs([2]int{0, 0}, [2]int{1, 1}, [2]int{0, 2}), api.ErrOrder},
		{pairs([2]int{0, 0}, [2]int{1, 1}, [2]int{1, 2}), api.ErrExists},
		{pairs([2]int{0, 0}, [2]int{1, 1}, [2]int{2, 0}), api.ErrExists},
		{pairs([2]int{0, 0}, [2]int{1, 1}, [2]int{2, 1}), api.ErrExists},
		{pairs([2]int{0, 0}, [2]int{1, 1}, [2]int{2, 2}), api.ErrProof},
	}
	for _, x := range tests {
		n, e := person.CheckLink(l, l, 0, linking(x.pairs, u, v))
		if e != x.want || n != 0 && e != api.OK || e == api.OK && n != 480 {
			t.Error(x.pairs, n, e)
		}
	}
}

// R2 (P1): numbers that are out of all bounds are told as errors.
func TestExtremesOfLinks(t *testing.T) {
	for _, n := range extremes {
		for _, p := range pairs([2]int{n, 0}, [2]int{0, n}, [2]int{n, n}) {
			if value, e := person.CheckLink(rows(), columns(), 0, linking(pairs(p), []int{0, 0}, []int{0, 0})); value != 0 || e != api.ErrMissing {
				t.Error(p, value, e)
			}
		}
		for _, k := range []api.Linking{linking(nil, []int{n, n}, []int{0, 0}), linking(nil, []int{0, 0}, []int{n, n})} {
			if value, e := person.CheckLink(rows(), columns(), 0, k); value != 0 || e != api.ErrRange {
				t.Error(k, value, e)
			}
		}
	}
}
