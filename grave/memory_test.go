package grave_test

import (
	"fmt"
	"reflect"
	"slices"
	"strings"
	"testing"

	"mortsafe/api"
	"mortsafe/grave"
)

// roomy gives the lists room behind their ends, in which a careless append would write.
func roomy() (api.Yard, []api.Event) {
	y, l := yard(), slices.Grow(many(), 5)
	y.Sites = slices.Grow(y.Sites, 5)
	y.Rests = slices.Grow(y.Rests, 5)
	return y, l
}

// everything is the results of all functions that return lists.
func everything(y api.Yard, l []api.Event) []any {
	of := func(results ...any) []any { return results }
	gathering := slices.Clone(l[:2])
	return slices.Concat(
		of(grave.Replay(y, l)),
		of(grave.Add(y, l, gather(7400, "q"))),
		of(grave.Add(y, l, bury(7400, "v", 0, "q", 0))),
		of(grave.On(y, l, 600)),
		of(grave.Where(y, l, "y", 600)),
		of(grave.Within(y, l, "s", 600)),
		of(grave.Stays(y, l, "y")),
		of(grave.Levels(y, l, "a")),
		of(grave.Free(y, l, api.Urn, 600)),
		of(grave.FirstFree(y, l, api.Berth{Site: "a"}, api.Urn, 7400)),
		of(grave.Left(y, l, "a", api.Urn)),
		of(grave.RestOver(y, gathering, "y")),
		of(grave.Reusable(y, l, 7399)),
		of(grave.GatherAll(y, gathering, "a", 7500)),
		of(grave.Print(y, l)),
		of(grave.Parse(yardText+twoText)),
	)
}

// R3 (P1): no function writes into its arguments, or behind them.
func TestArgumentsStay(t *testing.T) {
	y, l := roomy()
	l[:len(l)+1][len(l)] = gather(1, "behind")
	y.Sites[:5][4].Name = "behind"
	y.Rests[:3][2].Days = 77
	everything(y, l)
	grave.CheckYard(y)
	grave.RestOf(y, "a", api.Urn)
	grave.DepthOf(y, "a", 1)
	grave.Takes(y, "a", 1, api.Urn)
	if !reflect.DeepEqual(y, yard()) || !slices.Equal(l, many()) {
		t.Error(y, l)
	}
	if l[:len(l)+1][len(l)] != gather(1, "behind") || y.Sites[:5][4].Name != "behind" || y.Rests[:3][2].Days != 77 {
		t.Error("something is written behind a list")
	}
}

// R3 (P1): writing into results, or behind them, changes no argument and no other result.
func TestResultsAreApart(t *testing.T) {
	y, l := roomy()
	first := everything(y, l)
	want := everything(yard(), many())
	for _, result := range everything(y, l) {
		spoil(reflect.ValueOf(result))
	}
	if !reflect.DeepEqual(first, want) || !reflect.DeepEqual(everything(y, l), want) {
		t.Error(first)
	}
	if !reflect.DeepEqual(y, yard()) || !slices.Equal(l, many()) {
		t.Error(y, l)
	}
}

// spoil fills a list, up to its capacity, with zeros.
func spoil(v reflect.Value) {
	switch v.Kind() {
	case reflect.Slice:
		all := v.Slice(0, v.Cap())
		for i := range all.Len() {
			if i < v.Len() {
				spoil(all.Index(i))
			}
			all.Index(i).SetZero()
		}
	case reflect.Struct:
		for i := range v.NumField() {
			spoil(v.Field(i))
		}
	}
}

// R3 (P1): the lists of one result are apart, too.
func TestListsOfOneResultAreApart(t *testing.T) {
	l := append(many(), bury(7400, "a", 0, "q", 0), bury(7400, "a", 1, "r", 0))
	for i := range 3 {
		levels, _ := grave.Levels(yard(), l, "a")
		want, _ := grave.Levels(yard(), l, "a")
		spoil(reflect.ValueOf(append(levels[i], api.Stay{})))
		spoil(reflect.ValueOf(levels[i]))
		for j := range 3 {
			if i != j && !same(levels[j], want[j]) {
				t.Error(i, j, levels[j], want[j])
			}
		}
	}
	if y, m, _, _ := grave.Parse(yardText + twoText); len(y.Sites) != 4 || len(y.Rests) != 2 || len(m) != 2 {
		t.Error(y, m)
	}
}

// R4 (P1): the same arguments give the same results, also where maps are used.
func TestResultsAreRepeated(t *testing.T) {
	l := repeat(60, func(i int) api.Event { return bury(5, "s", 0, fmt.Sprint("r", i*37%60), api.Ashes) })
	first, _ := grave.On(yard(), l, 5)
	if !slices.IsSortedFunc(first, func(a, b api.Lot) int { return strings.Compare(a.Remain, b.Remain) }) {
		t.Error(first)
	}
	want := everything(yard(), many())
	for range 30 {
		if lots, _ := grave.On(yard(), l, 5); !slices.Equal(lots, first) {
			t.Fatal(lots, first)
		}
		if lots, _ := grave.Within(yard(), l, "s", 5); !slices.Equal(lots, first) {
			t.Fatal(lots, first)
		}
		if got := everything(yard(), many()); !reflect.DeepEqual(got, want) {
			t.Fatal(got, want)
		}
	}
}

// R5 (P1): nil lists and empty ones are the same.
func TestNoLists(t *testing.T) {
	empty := api.Yard{Sites: []api.Site{}, Rests: []api.Rest{}}
	for _, y := range []api.Yard{{}, empty} {
		for _, l := range [][]api.Event{nil, {}} {
			lots, n, e := grave.Replay(y, l)
			on, wrong := grave.On(y, l, 5)
			if len(lots) != 0 || n != 0 || e != api.OK || len(on) != 0 || wrong != api.OK {
				t.Error(lots, n, e, on, wrong)
			}
			free, e := grave.Free(y, l, api.Urn, 5)
			sites, wrong := grave.Reusable(y, l, 5)
			if len(free) != 0 || e != api.OK || len(sites) != 0 || wrong != api.OK {
				t.Error(free, e, sites, wrong)
			}
			if s, e := grave.Print(y, l); s != "covers 0 0 0\n" || e != api.OK {
				t.Error(s, e)
			}
		}
	}
}

// R2 (P1): large arguments end soon, and nothing panics.
func TestLargeArguments(t *testing.T) {
	events := make([]api.Event, 1<<20)
	many := api.Yard{Sites: make([]api.Site, 1<<20), Rests: make([]api.Rest, 1<<20)}
	long := strings.Repeat("bury ", 1<<20)
	for _, y := range []api.Yard{yard(), many, wrongYard(), {Sites: []api.Site{earth("a", -1, -1, -1<<63, 1<<62)}}} {
		for _, l := range [][]api.Event{nil, events, {bury(0, "a", 0, "x", 1<<40)}, {bury(0, long, -1<<63, long, 0)}} {
			wrongCalls(y, l)
			grave.Add(y, l, bury(0, "a", 11, "x", api.Coffin))
			grave.GatherAll(y, l, "a", 0)
			grave.FirstFree(y, l, api.Berth{Site: "a", Level: 11}, 0, 0)
			grave.Left(y, l, "a", 0)
			grave.Takes(y, "a", 1<<62, 1<<62)
			grave.Takes(y, long, -1<<63, -1<<63)
		}
	}
	for _, text := range []string{long, strings.Repeat(" ", 1<<24), strings.Repeat("exhume 1", 1<<20)} {
		if e, wrong := grave.ParseEvent(text); e != (api.Event{}) || wrong != api.ErrSyntax {
			t.Error(e, wrong)
		}
		if _, l, n, wrong := grave.Parse(text); l != nil || n != 0 || wrong != api.ErrLarge {
			t.Error(l, n, wrong)
		}
	}
}
