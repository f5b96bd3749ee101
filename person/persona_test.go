package person_test

import (
	"testing"

	"mortsafe/api"
	"mortsafe/person"
)

// P4.9: a persona is what all entries of a class have in common.
func TestPersona(t *testing.T) {
	more := notes(
		entry("?b?", 0, 100, 300, 400),
		entry("[ab][ab][ab]", 20, 200, 350, 500),
		entry("?[bc]?", 50, 60, 0, 380),
		entry("[bc]?a", 60, 60, 380, 390),
	)
	tests := []struct {
		what  string
		l     []api.Note
		class []int
		want  api.Note
	}{
		{"the chapter's example 6", three(), []int{0, 1}, entry("Meier", 50, 100, 500, 550)},
		{"one entry", three(), []int{0}, three()[0]},
		{"the last entry", three(), []int{2}, three()[2]},
		{"the first two", more, []int{0, 1}, entry("[ab]b[ab]", 20, 100, 350, 400)},
		{"a gap", more, []int{0, 2}, entry("?b?", 50, 60, 300, 380)},
		{"three", more, []int{0, 1, 2}, entry("[ab]b[ab]", 50, 60, 350, 380)},
		{"all", more, []int{0, 1, 2, 3}, entry("bba", 60, 60, 380, 380)},
		{"died on the day of birth", notes(entry("a", 0, 9, 5, 9), entry("a", 5, 9, 0, 5)), []int{0, 1}, entry("a", 5, 9, 5, 5)},
	}
	for _, x := range tests {
		if p, e := person.Persona(x.l, x.class); p != x.want || e != api.OK {
			t.Error(x.what, p, e)
		}
	}
}

// P4.9: the errors of a class, in their order.
func TestErrorsOfPersona(t *testing.T) {
	wide := entry("?", 0, 1000, 0, 1000)
	odd := notes(wide, entry("a", 0, 10, 0, 10), entry("b", 0, 10, 0, 10), entry("??", 0, 10, 0, 10), entry("?", 11, 20, 11, 20), entry("?", 0, 10, 11, 20), entry("?", 5, 20, 0, 9))
	tests := []struct {
		what  string
		l     []api.Note
		class []int
		want  api.Errno
	}{
		{"wrong entries", notes(named("")), nil, api.ErrSyntax},
		{"61 entries", repeat(61, always(wide)), []int{-1}, api.ErrLarge},
		{"no class", three(), nil, api.ErrShape},
		{"no class of no entries", nil, nil, api.ErrShape},
		{"no entries", nil, []int{0}, api.ErrMissing},
		{"a number too many", three(), []int{3}, api.ErrMissing},
		{"a negative number", three(), []int{-1}, api.ErrMissing},
		{"missing behind others", three(), []int{0, 1, 3}, api.ErrMissing},
		{"twice", three(), []int{0, 0}, api.ErrOrder},
		{"descending", three(), []int{1, 0}, api.ErrOrder},
		{"descending at the end", three(), []int{0, 2, 1}, api.ErrOrder},
		{"missing before order", three(), []int{1, -1}, api.ErrMissing},
		{"order before missing", three(), []int{1, 0, 3}, api.ErrOrder},
		{"order before clash", three(), []int{1, 2, 0}, api.ErrOrder},
		{"missing before clash", three(), []int{0, 2, 3}, api.ErrMissing},

		{"the shared example", three(), []int{0, 2}, api.ErrClash},
		{"other letters", odd, []int{1, 2}, api.ErrClash},
		{"other letters with a third name between", odd, []int{0, 1, 2}, api.ErrClash},
		{"other numbers of signs", odd, []int{0, 3}, api.ErrClash},
		{"other letters and further names", notes(odd[1], odd[2], odd[3], odd[0]), []int{0, 1, 2, 3}, api.ErrClash},
		{"no day of birth", odd, []int{1, 4}, api.ErrClash},
		{"no day of death", odd, []int{0, 1, 5}, api.ErrClash},
		{"the last day of death is before the first one of birth", notes(entry("a", 0, 20, 0, 5), entry("a", 6, 20, 0, 9)), []int{0, 1}, api.ErrClash},
		{"each two have a persona", notes(entry("[ab]", 0, 9, 0, 9), entry("[bc]", 0, 9, 0, 9), entry("[ac]", 0, 9, 0, 9)), []int{0, 1, 2}, api.ErrClash},
	}
	for _, x := range tests {
		if p, e := person.Persona(x.l, x.class); p != (api.Note{}) || e != x.want {
			t.Error(x.what, p, e)
		}
	}
	for _, n := range extremes {
		if p, e := person.Persona(three(), []int{n}); p != (api.Note{}) || e != api.ErrMissing {
			t.Error(n, p, e)
		}
		if p, e := person.Persona(three(), []int{0, 1, n}); p != (api.Note{}) || e != api.ErrMissing {
			t.Error(n, p, e)
		}
	}
	for _, x := range noteTests {
		if x.want == api.OK {
			continue
		}
		if p, e := person.Persona(with(three(), x.note), nil); p != (api.Note{}) || e != x.want {
			t.Error(x.what, p, e)
		}
	}
}

// P4.9: Impossible is the classes without a persona, in their order.
func TestImpossible(t *testing.T) {
	l := notes(named("a"), named("b"), named("[ab]"), named("a"), named("c"), named("?"))
	tests := []struct {
		what string
		l    []api.Note
		d    []api.Decision
		want [][]int
	}{
		{"no entries", nil, nil, nil},
		{"no decisions", l, nil, nil},
		{"the shared example", three(), decisions(same(2, 1)), [][]int{{1, 2}}},
		{"possible", three(), decisions(same(0, 1)), nil},
		{"all", three(), decisions(same(0, 1), same(2, 1)), [][]int{{0, 1, 2}}},
		{"withdrawn", three(), decisions(same(2, 1), withdraw(0)), nil},
		{"two", l, decisions(same(4, 3), same(1, 0), same(2, 5)), [][]int{{0, 1}, {3, 4}}},
		{"one of two", l, decisions(same(3, 0), same(1, 4)), [][]int{{1, 4}}},
		{"by a third one", l, decisions(same(2, 0), same(2, 1)), [][]int{{0, 1, 2}}},
		{"a contradiction is none", l, decisions(same(0, 3), different(0, 3)), nil},
		{"different is no class", l, decisions(different(0, 1)), nil},
	}
	for _, x := range tests {
		if c, e := person.Impossible(x.l, x.d); !equalLists(c, x.want) || e != api.OK {
			t.Error(x.what, c, e)
		}
	}
}

// P4.9: the errors of the entries are told before those of the decisions on as many.
func TestErrorsOfImpossible(t *testing.T) {
	for _, x := range noteTests {
		for _, d := range [][]api.Decision{nil, decisions(same(5, 5))} {
			if c, e := person.Impossible(notes(x.note), d); x.want != api.OK && (c != nil || e != x.want) {
				t.Error(x.what, c, e)
			}
		}
	}
	four := repeat(4, always(named("a")))
	for _, x := range decisionTests {
		if c, e := person.Impossible(four, x.l); e != x.want || len(c) != 0 {
			t.Error(x.what, c, e)
		}
	}
	last := decisions(same(0, 3))
	if c, e := person.Impossible(four[:3], last); c != nil || e != api.ErrMissing {
		t.Error(c, e)
	}
	if c, e := person.Impossible(four, last); len(c) != 0 || e != api.OK {
		t.Error(c, e)
	}
	if c, e := person.Impossible(repeat(61, always(named("a"))), repeat(121, always(same(0, 1)))); c != nil || e != api.ErrLarge {
		t.Error(c, e)
	}
}
