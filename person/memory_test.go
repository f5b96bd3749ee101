package person_test

import (
	"reflect"
	"slices"
	"strings"
	"testing"

	"mortsafe/api"
	"mortsafe/person"
)

// everything is the results of all functions that return lists.
func everything(a, b []api.Note, l []api.Decision, class []int, k api.Linking) []any {
	of := func(results ...any) []any { return results }
	return slices.Concat(
		of(person.Signs("M[ae]i?r")),
		of(person.Readings("[ab][-x]y")),
		of(person.Score(a[0], b[0])),
		of(person.Link(a, b, 0)),
		of(person.CheckLink(a, b, 20, k)),
		of(person.Standing(6, l)),
		of(person.Classes(6, l)),
		of(person.ClassOf(6, l, 2)),
		of(person.Why(6, l, [2]int{0, 2})),
		of(person.Contradiction(6, l)),
		of(person.Conflicts(6, l)),
		of(person.Decide(6, l[:2], l[2])),
		of(person.Decide(6, l, withdraw(3))),
		of(person.Decide(6, nil, l[0])),
		of(person.CheckChain(6, l, api.Chain{Same: class[1:2], Different: 6})),
		of(person.Persona(a, class[:2])),
		of(person.Impossible(with(a, b[0], b[1], a[0], b[1]), l)),
		of(person.Print(a)),
		of(person.Parse(twoText)),
	)
}

// arguments are lists with room behind their ends, in which a careless append would
// write; something is written there.
func arguments() ([]api.Note, []api.Note, []api.Decision, []int, api.Linking) {
	a, b, l := slices.Grow(rows(), 5), slices.Grow(columns(), 5), slices.Grow(several(), 5)
	class := slices.Grow([]int{0, 1, 2}, 5)
	k := linking(slices.Grow(pairs([2]int{0, 1}, [2]int{1, 0}), 5), slices.Grow([]int{20, 15}, 5), slices.Grow([]int{10, 0}, 5))
	a[:3][2], b[:3][2], l[:len(l)+1][len(l)] = named("behind"), named("behind"), same(7, 7)
	class[:4][3], k.Pairs[:3][2], k.U[:3][2], k.V[:3][2] = 77, [2]int{7, 7}, 77, 77
	return a, b, l, class, k
}

// argumentsWithRoom are the arguments with what is written behind their ends.
func argumentsWithRoom(a, b []api.Note, l []api.Decision, class []int, k api.Linking) []any {
	whole := linking(k.Pairs[:3], k.U[:3], k.V[:3])
	return []any{a[:3], b[:3], l[:len(l)+1], class[:4], whole}
}

// R3 (P1): no function writes into its arguments, or behind them.
func TestArgumentsStay(t *testing.T) {
	a, b, l, class, k := arguments()
	everything(a, b, l, class, k)
	person.CheckNotes(a)
	person.CheckDecisions(6, l)
	want := argumentsWithRoom(arguments())
	if got := argumentsWithRoom(a, b, l, class, k); !reflect.DeepEqual(got, want) {
		t.Error(got, want)
	}
}

// R3 (P1): writing into results, or behind them, changes no argument and no other result.
func TestResultsAreApart(t *testing.T) {
	a, b, l, class, k := arguments()
	first, want := everything(a, b, l, class, k), everything(arguments())
	for _, result := range everything(a, b, l, class, k) {
		spoil(reflect.ValueOf(result))
	}
	if !reflect.DeepEqual(first, want) || !reflect.DeepEqual(everything(a, b, l, class, k), want) {
		t.Error(first)
	}
	got, args := argumentsWithRoom(a, b, l, class, k), argumentsWithRoom(arguments())
	if !reflect.DeepEqual(got, args) {
		t.Error(got, args)
	}
}

// spoil fills a list, up to its capacity, with zeros.
func spoil(v reflect.Value) {
	switch v.Kind() {
	case reflect.Slice:
		all := v.Slice(0, v.Cap())
		for i := range all.Len() {
			if i < v.Len() {
				spoil(all.Index(i))
			}
			all.Index(i).SetZero()
		}
	case reflect.Struct:
		for i := range v.NumField() {
			spoil(v.Field(i))
		}
	}
}

// R3 (P1): the lists of one result are apart, too: appending to one changes no other one.
func TestListsOfOneResultAreApart(t *testing.T) {
	l := decisions(same(0, 3), same(1, 4), same(2, 5))
	apart := repeat(6, func(i int) api.Note { return named(string(rune('a' + i))) })
	results := func() [][][]int {
		classes, _ := person.Classes(6, l)
		impossible, _ := person.Impossible(apart, l)
		k, _, _ := person.Link(rows(), columns(), 0)
		return [][][]int{classes, impossible, {k.U, k.V}}
	}
	want := results()
	for r := range want {
		if len(want[r]) < 2 {
			t.Fatal(want)
		}
		for i := range want[r] {
			got := results()
			spoil(reflect.ValueOf(append(got[r][i], 77)))
			spoil(reflect.ValueOf(got[r][i]))
			for j := range got[r] {
				if i != j && !slices.Equal(got[r][j], want[r][j]) {
					t.Error(r, i, j, got[r][j], want[r][j])
				}
			}
		}
	}
}

// R4 (P1): the same arguments give the same results, also where maps are used, and where
// which result it is is not specified.
func TestResultsAreRepeated(t *testing.T) {
	ring := repeat(60, func(i int) api.Decision { return same(i, (i+1)%60) })
	ring = with(ring, different(0, 30), different(45, 15), different(10, 40))
	alike := repeat(8, always(named("a")))
	first := everything(arguments())
	classes, _ := person.Classes(60, ring)
	chain, _, _ := person.Contradiction(60, ring)
	k, _, _ := person.Link(alike, alike, 0)
	for range 30 {
		if got := everything(arguments()); !reflect.DeepEqual(got, first) {
			t.Fatal(got, first)
		}
		c, _ := person.Classes(60, ring)
		x, _, _ := person.Contradiction(60, ring)
		links, _, _ := person.Link(alike, alike, 0)
		if !reflect.DeepEqual(c, classes) || !reflect.DeepEqual(x, chain) || !reflect.DeepEqual(links, k) {
			t.Fatal(c, x, links)
		}
	}
}

// R5 (P1): nil lists and empty ones are the same.
func TestNoLists(t *testing.T) {
	for _, l := range [][]api.Decision{nil, {}} {
		classes, e := person.Classes(0, l)
		standing, wrong := person.Standing(0, l)
		if len(classes) != 0 || e != api.OK || len(standing) != 0 || wrong != api.OK {
			t.Error(classes, e, standing, wrong)
		}
		conflicts, e := person.Conflicts(5, l)
		c, is, wrong := person.Contradiction(5, l)
		if len(conflicts) != 0 || e != api.OK || len(c.Same) != 0 || is || wrong != api.OK {
			t.Error(conflicts, e, c, is, wrong)
		}
		if further, e := person.Decide(2, l, same(0, 1)); !slices.Equal(further, decisions(same(0, 1))) || e != api.OK {
			t.Error(further, e)
		}
	}
	for _, none := range [][]api.Note{nil, {}} {
		if s, e := person.Print(none); s != "" || e != api.OK {
			t.Error(s, e)
		}
		if c, e := person.Impossible(none, nil); len(c) != 0 || e != api.OK {
			t.Error(c, e)
		}
		if k, n, e := person.Link(none, none, 0); len(k.Pairs)+len(k.U)+len(k.V)+n != 0 || e != api.OK {
			t.Error(k, n, e)
		}
		empty := linking([][2]int{}, []int{}, []int{})
		if n, e := person.CheckLink(none, nil, 0, empty); n != 0 || e != api.OK {
			t.Error(n, e)
		}
	}
	for _, class := range [][]int{nil, {}} {
		if p, e := person.Persona(three(), class); p != (api.Note{}) || e != api.ErrShape {
			t.Error(p, e)
		}
		if e := person.CheckChain(4, triangle(), api.Chain{Same: class, Different: 2}); e != api.ErrProof {
			t.Error(e)
		}
	}
}

// R2 (P1): large texts end soon, and nothing panics.
func TestLargeTexts(t *testing.T) {
	texts := []struct {
		text string
		want api.Errno
	}{
		{strings.Repeat("a", 1<<20), api.ErrLarge},
		{strings.Repeat("?", 1<<20), api.ErrLarge},
		{strings.Repeat("[ab]", 1<<18), api.ErrLarge},
		{strings.Repeat("[", 1<<22), api.ErrSyntax},
		{strings.Repeat("]", 1<<22), api.ErrSyntax},
		{strings.Repeat("[ab", 1<<20), api.ErrSyntax},
		{"[" + strings.Repeat("a", 1<<22) + "]", api.ErrSyntax},
		{strings.Repeat("a", 1<<22) + "[ab", api.ErrSyntax},
		{strings.Repeat(" ", 1<<22), api.ErrSyntax},
		{strings.Repeat("same ", 1<<20), api.ErrSyntax},
		{"same " + strings.Repeat("9", 1<<22) + " " + strings.Repeat("0", 1<<22), api.ErrSyntax},
	}
	for _, x := range texts {
		if e := person.CheckName(x.text); e != x.want {
			t.Error(x.text[:5], e)
		}
		if n, e := person.Count(x.text); n != 0 || e != x.want {
			t.Error(x.text[:5], n, e)
		}
		if n, e := person.Distance("a", x.text); n != 0 || e != x.want {
			t.Error(x.text[:5], n, e)
		}
		if d, e := person.ParseDecision(x.text); d != (api.Decision{}) || e != api.ErrSyntax {
			t.Error(x.text[:5], d, e)
		}
		if l, n, e := person.Parse(x.text); l != nil || n != 0 || e != api.ErrLarge {
			t.Error(x.text[:5], l, n, e)
		}
	}
}

// R2 (P1): large lists end soon, too.
func TestLargeLists(t *testing.T) {
	const many = 1 << 20
	entries, all := repeat(many, always(named("a"))), make([]api.Decision, many)
	if e := person.CheckNotes(entries); e != api.ErrLarge {
		t.Error(e)
	}
	if l, e := person.Decide(60, all, same(0, 1)); l != nil || e != api.ErrLarge {
		t.Error(l, e)
	}
	if p, e := person.Persona(three(), make([]int, many)); p != (api.Note{}) || e != api.ErrOrder {
		t.Error(p, e)
	}
	if e := person.CheckChain(4, triangle(), api.Chain{Same: make([]int, many), Different: 2}); e != api.ErrProof {
		t.Error(e)
	}
	long := linking(make([][2]int, many), []int{0, 0}, []int{0, 0})
	if n, e := person.CheckLink(rows(), columns(), 0, long); n != 0 || e != api.ErrOrder {
		t.Error(n, e)
	}
	if n, e := person.CheckLink(rows(), columns(), 0, linking(nil, make([]int, many), nil)); n != 0 || e != api.ErrShape {
		t.Error(n, e)
	}
	worst := repeat(api.MaxDecisions, func(i int) api.Decision {
		if i < 59 {
			return same(i, i+1)
		}
		return different(i-59, (i-59+30)%60)
	})
	if l, e := person.Conflicts(60, worst[:119]); len(l) != 60 || e != api.OK {
		t.Error(l, e)
	}
	if c, is, e := person.Contradiction(60, worst[:119]); len(c.Same) != 30 || !is || e != api.OK {
		t.Error(c, is, e)
	}
}
