package rule_test

import (
	"fmt"
	"math"
	"math/rand"
	"slices"
	"strings"
	"testing"

	"mortsafe/api"
	"mortsafe/rule"
)

const mostValue = 1000000000

// P2.6: the error of a provision, of several errors the first one.
func TestCheckProvision(t *testing.T) {
	for _, c := range []struct {
		p    api.Provision
		want api.Errno
	}{
		{sets("a", 0, 0, 0), api.OK},
		{sets("aZ0-9bcdefgh", mostValue, api.MaxDay, api.MaxDay), api.OK},
		{sets("a", -mostValue, 5, 3), api.OK},
		{repeals("a", 3, 5), api.OK},
		{sets("", mostValue+1, -1, -1), api.ErrName},
		{sets("abcdefghijklm", 0, 0, 0), api.ErrName},
		{sets("1a", 0, 0, 0), api.ErrName},
		{sets("-a", 0, 0, 0), api.ErrName},
		{sets("a b", 0, 0, 0), api.ErrName},
		{sets("a\n", 0, 0, 0), api.ErrName},
		{sets("\u00e4", 0, 0, 0), api.ErrName},
		{api.Provision{Value: 1, Repeal: true}, api.ErrName},
		{sets("a", mostValue+1, 0, 0), api.ErrRange},
		{sets("a", -mostValue-1, 0, 0), api.ErrRange},
		{sets("a", math.MinInt, 0, 0), api.ErrRange},
		{sets("a", math.MaxInt, 0, 0), api.ErrRange},
		{sets("a", 0, -1, 0), api.ErrRange},
		{sets("a", 0, api.MaxDay+1, 0), api.ErrRange},
		{sets("a", 0, 0, -1), api.ErrRange},
		{sets("a", 0, 0, api.MaxDay+1), api.ErrRange},
		{sets("a", 0, math.MinInt, math.MaxInt), api.ErrRange},
		{api.Provision{Name: "a", Value: 1, From: -1, Repeal: true}, api.ErrRange},
		{api.Provision{Name: "a", Value: mostValue + 1, Repeal: true}, api.ErrRange},
		{api.Provision{Name: "a", Value: 1, Repeal: true}, api.ErrForm},
		{api.Provision{Name: "a", Value: -1, Repeal: true}, api.ErrForm},
	} {
		if e := rule.CheckProvisions([]api.Provision{c.p}); e != c.want {
			t.Error(c, e)
		}
	}
}

// P2.6: the errors of lists, entry by entry.
func TestCheckProvisions(t *testing.T) {
	a, wrong := sets("a", 1, 0, 5), sets("", 1, 0, 0)
	for _, c := range []struct {
		what string
		l    []api.Provision
		want api.Errno
	}{
		{"none", nil, api.OK},
		{"an empty list", []api.Provision{}, api.OK},
		{"the example", fees(), api.OK},
		{"most of them", slices.Repeat([]api.Provision{a}, 200), api.OK},
		{"too many", slices.Repeat([]api.Provision{a}, 201), api.ErrLarge},
		{"too many wrong ones", slices.Repeat([]api.Provision{wrong}, 201), api.ErrLarge},
		{"entered on one day", []api.Provision{a, sets("b", 1, 9, 5)}, api.OK},
		{"entered before", []api.Provision{a, sets("b", 1, 9, 4)}, api.ErrOrder},
		{"a wrong one entered before", []api.Provision{a, wrong}, api.ErrName},
		{"a wrong repeal entered before", []api.Provision{a, {Name: "a", Value: 1, Repeal: true}}, api.ErrForm},
		{"entered before a wrong one", []api.Provision{a, sets("b", 1, 9, 4), wrong}, api.ErrOrder},
		{"a wrong one first", []api.Provision{sets("a", 1, -1, 5), sets("b", 1, 9, 4)}, api.ErrRange},
		{"a repeal of nothing", []api.Provision{repeals("a", 0, 0)}, api.OK},
	} {
		if e := rule.CheckProvisions(c.l); e != c.want {
			t.Error(c.what, e)
		}
	}
}

// P2.6: Next, with the errors of both lists, and repeals of names without a value.
func TestNext(t *testing.T) {
	wrong := []api.Provision{sets("a", 1, 0, 5), sets("a", 1, 0, 4)}
	full := slices.Repeat([]api.Provision{sets("a", 1, 0, 5)}, 200)
	for _, c := range []struct {
		what string
		l    []api.Provision
		p    api.Provision
		want api.Errno
	}{
		{"the first one", nil, sets("a", 1, 0, 0), api.OK},
		{"the same one", fees(), fees()[3], api.ErrMissing},
		{"a later one", fees(), sets("fee", 7, 30, 28), api.OK},
		{"the last place", full[:199], sets("a", 1, 0, 5), api.OK},
		{"no place", full, sets("a", 1, 0, 5), api.ErrLarge},
		{"no place for a wrong one", full, sets("", 1, 0, 5), api.ErrLarge},
		{"wrong entries", wrong, sets("", 1, 0, 5), api.ErrOrder},
		{"a wrong one", fees(), sets("", 1, 0, 28), api.ErrName},
		{"a value too great", fees(), sets("a", mostValue+1, 0, 28), api.ErrRange},
		{"entered too early", fees(), sets("a", 1, 0, 27), api.ErrOrder},
		{"a repeal", fees()[:1], repeals("fee", 10, 5), api.OK},
		{"a repeal before the value", fees()[:1], repeals("fee", 9, 5), api.ErrMissing},
		{"a repeal entered too early", fees()[:1], repeals("fee", 9, 4), api.ErrOrder},
		{"a repeal that is wrong", nil, api.Provision{Name: "fee", Value: 1, Repeal: true}, api.ErrForm},
		{"a repeal of nothing", nil, repeals("fee", 9, 9), api.ErrMissing},
		{"a repeal of another name", fees()[:1], repeals("fees", 20, 20), api.ErrMissing},
		{"a repeal before a repeal", fees(), repeals("fee", 29, 28), api.OK},
		{"a repeal behind a repeal", fees(), repeals("fee", 31, 28), api.ErrMissing},
	} {
		l, e := rule.Next(c.l, c.p)
		want := append(slices.Clone(c.l), c.p)
		if c.want != api.OK {
			want = nil
		}
		if e != c.want || !slices.Equal(l, want) {
			t.Error(c.what, l, e)
		}
	}
}

// P2.7: Source and Value, with the chapter's example 7.
func TestSourceAndValue(t *testing.T) {
	for _, c := range []struct {
		name          string
		day, known    int
		source, value int
		want          api.Errno
	}{
		{"fee", 25, 20, 1, 120, api.OK},
		{"fee", 25, 26, 2, 110, api.OK},
		{"fee", 31, 27, 2, 110, api.OK},
		{"fee", 31, 28, 3, 0, api.ErrNone},
		{"fee", 30, 28, 3, 0, api.ErrNone},
		{"fee", 29, 28, 2, 110, api.OK},
		{"fee", 20, 25, 2, 110, api.OK},
		{"fee", 20, 24, 1, 120, api.OK},
		{"fee", 20, 14, 0, 100, api.OK},
		{"fee", 19, 30, 0, 100, api.OK},
		{"fee", 10, 5, 0, 100, api.OK},
		{"fee", api.MaxDay, api.MaxDay, 3, 0, api.ErrNone},
		{"fee", 9, 40, 0, 0, api.ErrMissing},
		{"fee", 10, 4, 0, 0, api.ErrMissing},
		{"fees", 25, 26, 0, 0, api.ErrMissing},
		{"", 25, 26, 0, 0, api.ErrMissing},
		{"no name", 25, 26, 0, 0, api.ErrMissing},
	} {
		source, e := rule.Source(fees(), c.name, [2]int{c.day, c.known})
		wanted := c.want
		if wanted == api.ErrNone {
			wanted = api.OK
		}
		if source != c.source || e != wanted {
			t.Error(c, source, e)
		}
		if value, e := rule.Value(fees(), c.name, [2]int{c.day, c.known}); value != c.value || e != c.want {
			t.Error(c, value, e)
		}
	}
}

// P2.7: of entries with the same From the last one decides; a later From goes
// before a later entry; values may be 0 and negative.
func TestLastEntryDecides(t *testing.T) {
	l := []api.Provision{sets("a", -5, 20, 5), sets("b", 9, 10, 5), sets("a", 0, 20, 5), sets("a", 7, 10, 6), repeals("c", 0, 7), sets("c", -1, 0, 7)}
	for _, c := range []struct {
		name          string
		at            [2]int
		source, value int
	}{
		{"a", [2]int{25, 5}, 2, 0},
		{"a", [2]int{25, 6}, 2, 0},
		{"a", [2]int{15, 6}, 3, 7},
		{"b", [2]int{15, 6}, 1, 9},
		{"c", [2]int{0, 7}, 5, -1},
	} {
		source, e1 := rule.Source(l, c.name, c.at)
		value, e2 := rule.Value(l, c.name, c.at)
		if source != c.source || value != c.value || e1 != api.OK || e2 != api.OK {
			t.Error(c, source, value, e1, e2)
		}
	}
}

// P2.7: Names and Consolidated: ascending, without repealed names.
func TestNamesAndConsolidated(t *testing.T) {
	l := []api.Provision{sets("z", -1, 10, 5), sets("b", 2, 10, 6), sets("B", 0, 10, 6), sets("b1", 4, 12, 6), sets("z", 3, 15, 7), repeals("b", 20, 8), sets("a", 1, 30, 9)}
	for _, c := range []struct {
		at    [2]int
		names []string
		text  string
	}{
		{[2]int{9, 40}, nil, ""},
		{[2]int{10, 4}, nil, ""},
		{[2]int{10, 5}, []string{"z"}, "z -1\n"},
		{[2]int{11, 40}, []string{"B", "b", "z"}, "B 0\nb 2\nz -1\n"},
		{[2]int{19, 7}, []string{"B", "b", "b1", "z"}, "B 0\nb 2\nb1 4\nz 3\n"},
		{[2]int{20, 7}, []string{"B", "b", "b1", "z"}, "B 0\nb 2\nb1 4\nz 3\n"},
		{[2]int{20, 8}, []string{"B", "b1", "z"}, "B 0\nb1 4\nz 3\n"},
		{[2]int{api.MaxDay, api.MaxDay}, []string{"B", "a", "b1", "z"}, "B 0\na 1\nb1 4\nz 3\n"},
	} {
		if names, e := rule.Names(l, c.at); !slices.Equal(names, c.names) || e != api.OK {
			t.Error(c, names, e)
		}
		if text, e := rule.Consolidated(l, c.at); text != c.text || e != api.OK {
			t.Error(c, text, e)
		}
	}
}

func begins(day, value int) api.RuleChange {
	return api.RuleChange{Day: day, Value: value, Holds: true}
}

func ends(day int) api.RuleChange { return api.RuleChange{Day: day} }

// P2.7: Changes, with the chapter's example 7: neither the same value again nor a
// repeal where none holds is a change.
func TestChanges(t *testing.T) {
	l := []api.Provision{
		repeals("a", 5, 1), sets("a", 0, 10, 1), sets("b", 9, 11, 1), sets("a", 0, 12, 2), sets("a", 3, 15, 3), repeals("a", 20, 3),
		repeals("a", 22, 4), sets("a", 3, 25, 4), sets("a", 8, 25, 6), sets("a", 3, 10, 7), sets("a", 1, 0, 7), repeals("c", 3, 8),
	}
	for _, c := range []struct {
		l     []api.Provision
		name  string
		known int
		want  []api.RuleChange
	}{
		{fees(), "fee", 30, []api.RuleChange{begins(10, 100), begins(20, 110), ends(30)}},
		{fees(), "fee", 24, []api.RuleChange{begins(10, 100), begins(20, 120)}},
		{fees(), "fee", 5, []api.RuleChange{begins(10, 100)}},
		{l, "a", 1, []api.RuleChange{begins(10, 0)}},
		{l, "a", 2, []api.RuleChange{begins(10, 0)}},
		{l, "a", 5, []api.RuleChange{begins(10, 0), begins(15, 3), ends(20), begins(25, 3)}},
		{l, "a", 6, []api.RuleChange{begins(10, 0), begins(15, 3), ends(20), begins(25, 8)}},
		{l, "a", 7, []api.RuleChange{begins(0, 1), ends(5), begins(10, 3), begins(12, 0), begins(15, 3), ends(20), begins(25, 8)}},
		{l, "c", 8, nil},
	} {
		if changes, e := rule.Changes(c.l, c.name, c.known); !slices.Equal(changes, c.want) || e != api.OK {
			t.Error(c.name, c.known, changes, e)
		}
	}
}

// P2.7: no entry of the name is known.
func TestNoChanges(t *testing.T) {
	for _, c := range []struct {
		name  string
		known int
	}{{"fee", 4}, {"fees", 30}, {"", 30}} {
		if changes, e := rule.Changes(fees(), c.name, c.known); len(changes) != 0 || e != api.ErrMissing {
			t.Error(c, changes, e)
		}
	}
}

// P2.7: first the error of the entries, then those of the days.
func TestWhatHoldsErrors(t *testing.T) {
	wrong := []api.Provision{sets("a", 1, 0, 5), sets("a", 1, 0, 4)}
	for _, c := range []struct {
		l    []api.Provision
		at   [2]int
		want api.Errno
	}{
		{wrong, [2]int{-1, 3}, api.ErrOrder},
		{wrong, [2]int{3, 3}, api.ErrOrder},
		{nil, [2]int{-1, 3}, api.ErrRange},
		{nil, [2]int{3, -1}, api.ErrRange},
		{fees(), [2]int{api.MaxDay + 1, 3}, api.ErrRange},
		{fees(), [2]int{25, api.MaxDay + 1}, api.ErrRange},
		{fees(), [2]int{math.MinInt, 20}, api.ErrRange},
		{fees(), [2]int{25, math.MaxInt}, api.ErrRange},
	} {
		if n, e := rule.Source(c.l, "fee", c.at); n != 0 || e != c.want {
			t.Error(c, n, e)
		}
		if n, e := rule.Value(c.l, "fee", c.at); n != 0 || e != c.want {
			t.Error(c, n, e)
		}
		if names, e := rule.Names(c.l, c.at); len(names) != 0 || e != c.want {
			t.Error(c, names, e)
		}
		if text, e := rule.Consolidated(c.l, c.at); text != "" || e != c.want {
			t.Error(c, text, e)
		}
	}
	for _, known := range noDays {
		if l, e := rule.Changes(fees(), "fee", known); len(l) != 0 || e != api.ErrRange {
			t.Error(known, l, e)
		}
		if l, e := rule.Changes(wrong, "fee", known); len(l) != 0 || e != api.ErrOrder {
			t.Error(known, l, e)
		}
	}
}

func randomProvisions(r *rand.Rand) []api.Provision {
	var l []api.Provision
	entered := 0
	for range 1 + r.Intn(12) {
		entered += r.Intn(3)
		name, from := string(rune('a'+r.Intn(3))), r.Intn(15)
		if r.Intn(4) == 0 {
			l = append(l, repeals(name, from, entered))
		} else {
			l = append(l, sets(name, r.Intn(3)-1, from, entered))
		}
	}
	return l
}

// decides is the oracle: the last one of the entries that no other one goes before.
func decides(l []api.Provision, name string, at [2]int) int {
	last := -1
	counts := func(p api.Provision) bool { return p.Name == name && p.Entered <= at[1] && p.From <= at[0] }
	for i, p := range l {
		later := func(q api.Provision) bool { return counts(q) && q.From > p.From }
		if counts(p) && !slices.ContainsFunc(l, later) {
			last = i
		}
	}
	return last
}

// P2.7: all that holds, against the oracle.
func TestWhatHoldsRandom(t *testing.T) {
	r := rand.New(rand.NewSource(9))
	for range 3000 {
		l, at := randomProvisions(r), [2]int{r.Intn(16), r.Intn(20)}
		var names []string
		text := ""
		for _, name := range []string{"a", "b", "c"} {
			source, wantS, value, wantV := decides(l, name, at), api.OK, 0, api.OK
			switch {
			case source < 0:
				source, wantS, wantV = 0, api.ErrMissing, api.ErrMissing
			case l[source].Repeal:
				wantV = api.ErrNone
			default:
				value = l[source].Value
				names, text = append(names, name), text+fmt.Sprintln(name, value)
			}
			if n, e := rule.Source(l, name, at); n != source || e != wantS {
				t.Fatal(l, name, at, n, e)
			}
			if n, e := rule.Value(l, name, at); n != value || e != wantV {
				t.Fatal(l, name, at, n, e)
			}
		}
		if got, e := rule.Names(l, at); !slices.Equal(got, names) || e != api.OK {
			t.Fatal(l, at, got, e)
		}
		if got, e := rule.Consolidated(l, at); got != text || e != api.OK {
			t.Fatal(l, at, got, e)
		}
	}
}

// P2.11: Value is what the last change by the day says, so that between two changes
// the value is the same; and each change says something else than the one before.
func TestValuesAndChanges(t *testing.T) {
	r := rand.New(rand.NewSource(10))
	for range 2000 {
		l, known := randomProvisions(r), r.Intn(20)
		changes, e := rule.Changes(l, "a", known)
		isThere := slices.ContainsFunc(l, func(p api.Provision) bool { return p.Name == "a" && p.Entered <= known })
		if isThere != (e == api.OK) || !isThere && e != api.ErrMissing {
			t.Fatal(l, known, changes, e)
		}
		last := api.RuleChange{}
		for day := range 20 {
			if len(changes) > 0 && changes[0].Day == day {
				if c := changes[0]; c.Holds == last.Holds && c.Value == last.Value {
					t.Fatal(l, known, c)
				}
				last, changes = changes[0], changes[1:]
			}
			value, e := rule.Value(l, "a", [2]int{day, known})
			if value != last.Value || (e == api.OK) != last.Holds {
				t.Fatal(l, known, day, value, e, last)
			}
		}
		if len(changes) > 0 {
			t.Fatal(l, known, changes)
		}
	}
}

// P2.11: later entries, also such that hold backwards, change nothing of what was
// known before.
func TestKnownBefore(t *testing.T) {
	r := rand.New(rand.NewSource(11))
	for range 1000 {
		l := randomProvisions(r)
		known := l[len(l)-1].Entered
		more, e := rule.Next(l, sets("a", 77, r.Intn(15), known+1))
		if e != api.OK {
			t.Fatal(l, e)
		}
		for day := range 16 {
			a, _ := rule.Consolidated(l, [2]int{day, known})
			b, _ := rule.Consolidated(more, [2]int{day, known})
			if a != b {
				t.Fatal(more, day, a, b)
			}
		}
		a, e1 := rule.Changes(l, "a", known)
		b, e2 := rule.Changes(more, "a", known)
		if !slices.Equal(a, b) || e1 != e2 {
			t.Fatal(more, a, b, e1, e2)
		}
	}
}

// R2 (P1): long names and lists end without a panic.
func TestLargeProvisions(t *testing.T) {
	if e := rule.CheckProvisions([]api.Provision{sets(strings.Repeat("a", 1<<20), 1, 1, 1)}); e != api.ErrName {
		t.Error(e)
	}
	if l, e := rule.Next(make([]api.Provision, 1<<16), sets("a", 1, 1, 1)); len(l) != 0 || e != api.ErrLarge {
		t.Error(e)
	}
	if _, e := rule.Source(fees(), strings.Repeat("a", 1<<20), [2]int{1, 1}); e != api.ErrMissing {
		t.Error(e)
	}
}
