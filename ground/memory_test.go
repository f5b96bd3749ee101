package ground_test

import (
	"reflect"
	"slices"
	"testing"

	"mortsafe/api"
	"mortsafe/ground"
)

// R3 (P1): no function writes into its arguments.
func TestArgumentsStay(t *testing.T) {
	a, b := box(0, 0, 50, 100), box(50, 0, 100, 50)
	s, l, loop := example(), exampleNet(), []int{1, 2, -3}
	heights := fracs(0, 1, 102, 1, 154, 1)
	old, further := lines("o1", "z", "o2", "y", "o2", "z"), lines("y", "q", "z", "p")
	names, r := []string{"o2", "o1"}, part([]string{"o1", "o2"}, "a", "b")
	everything := func() []any {
		return []any{slices.Clone(a), slices.Clone(b), clone(s), slices.Clone(l), slices.Clone(loop), slices.Clone(heights),
			slices.Clone(old), slices.Clone(further), slices.Clone(names), part(slices.Clone(r.Old), slices.Clone(r.New)...)}
	}
	before := everything()
	ground.CheckPolygon(a)
	ground.Area(a)
	ground.Where(a, api.Point{X: 1, Y: 1})
	ground.Overlap(a, b)
	ground.Within(a, b)
	ground.Border(a, b)
	ground.CheckSection(s)
	ground.Gap(s)
	ground.Neighbours(s, 0)
	ground.PlotAt(s, api.Point{X: 1, Y: 1})
	ground.CheckNet(3, l)
	ground.Heights(3, l)
	ground.Residuals(3, l, heights)
	ground.CheckHeights(3, l, heights)
	ground.Misclosure(3, l, loop)
	ground.CheckNumbers(old)
	ground.Compose(old, further)
	ground.Turn(old)
	ground.Images(old, names)
	ground.Parts(old)
	ground.KindOf(r)
	ground.Print(s)
	if after := everything(); !reflect.DeepEqual(before, after) {
		t.Error(before, after)
	}
}

func clone(s api.Section) api.Section {
	s.Corners, s.Plots = slices.Clone(s.Corners), slices.Clone(s.Plots)
	for i := range s.Plots {
		s.Plots[i].Corners = slices.Clone(s.Plots[i].Corners)
	}
	return s
}

// R3 (P1): writing into a result, or behind it, changes no argument, no other part
// of the result and no later result.
func TestResultsAreApart(t *testing.T) {
	text, _ := ground.Print(example())
	s, _, _ := ground.Parse(text)
	want := clone(s)
	_ = append(s.Corners, api.Point{X: 7})
	_ = append(s.Plots[0].Corners, api.Point{X: 7})
	_ = append(s.Plots[1].Corners, api.Point{X: 7})
	if !sameSections(s, want) {
		t.Error(s)
	}
	s.Plots[0].Corners[0].X = 7
	if !slices.Equal(s.Plots[1].Corners, want.Plots[1].Corners) || !slices.Equal(s.Corners, want.Corners) {
		t.Error(s)
	}
	l := lines("a", "x", "b", "y", "b", "z", "c", "x")
	parts, _ := ground.Parts(l)
	_ = append(parts[0].Old, "q")
	_ = append(parts[0].New, "q")
	_ = append(parts[1].Old, "q")
	parts[0].Old[0], parts[1].New[0] = "q", "q"
	if !slices.Equal(l, lines("a", "x", "b", "y", "b", "z", "c", "x")) {
		t.Error(l)
	}
	if again, _ := ground.Parts(l); !sameParts(again, []api.Renumbering{part([]string{"a", "c"}, "x"), part([]string{"b"}, "y", "z")}) {
		t.Error(again)
	}
	images, _ := ground.Images(l, []string{"b"})
	images[0] = "q"
	turned := mustTurn(t, l)
	turned[0].Old = "q"
	composed, _ := ground.Compose(l, lines("x", "x"))
	composed[0].Old = "q"
	if !slices.Equal(l, lines("a", "x", "b", "y", "b", "z", "c", "x")) {
		t.Error(l)
	}
}

// R4 (P1): a call tells the same the second time.
func TestCallsAreRepeatable(t *testing.T) {
	r := exampleLines()
	for range 20 {
		if l, _ := ground.Parts(r); len(l) != 2 || l[0].Old[0] != "o1" {
			t.Fatal(l)
		}
		if l, _ := ground.Images(r, []string{"o3", "o2", "o1"}); !slices.Equal(l, []string{"a", "b", "c"}) {
			t.Fatal(l)
		}
	}
}
