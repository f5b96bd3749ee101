package ground_test

import (
	"slices"
	"strings"
	"testing"

	"mortsafe/api"
	"mortsafe/ground"
)

func plot(name string, corners []api.Point) api.Plot {
	return api.Plot{Name: name, Corners: corners}
}

func section(plots ...api.Plot) api.Section {
	return api.Section{Name: "s", Corners: box(0, 0, 100, 100), Plots: plots}
}

// example is the section of the chapter's first example.
func example() api.Section {
	return section(plot("a", box(0, 0, 50, 100)), plot("b", box(50, 0, 100, 50)))
}

// field has n plots in rows of ten, each one 10 wide and 10 high.
func field(n int) api.Section {
	s := section()
	for i := range n {
		x, y := 10*(i%10), 10*(i/10)
		s.Plots = append(s.Plots, plot(name(i), box(x, y, x+10, y+10)))
	}
	return s
}

func with(s api.Section, change func(*api.Section)) api.Section {
	change(&s)
	return s
}

// P1.3: each error of CheckSection with its numbers, and that an earlier one goes
// before later ones.
func TestCheckSection(t *testing.T) {
	bad := points(0, 0, 0, 4, 4, 0)
	a := plot("a", box(0, 0, 50, 50))
	for _, c := range []struct {
		what string
		s    api.Section
		at   [2]int
		want api.Errno
	}{
		{"the example", example(), [2]int{}, api.OK},
		{"no plots", section(), [2]int{}, api.OK},
		{"60 plots", field(60), [2]int{}, api.OK},
		{"a plot as large as the section", section(plot("s", box(0, 0, 100, 100))), [2]int{}, api.OK},
		{"no name", api.Section{Corners: bad}, [2]int{}, api.ErrName},
		{"a digit ahead", with(section(), func(s *api.Section) { s.Name = "1s" }), [2]int{}, api.ErrName},
		{"no corners", api.Section{Name: "s", Plots: field(61).Plots}, [2]int{}, api.ErrShape},
		{"clockwise", api.Section{Name: "s", Corners: bad}, [2]int{}, api.ErrOrder},
		{"61 plots", field(61), [2]int{}, api.ErrLarge},
		{"61 plots without names", section(make([]api.Plot, 61)...), [2]int{}, api.ErrLarge},
		{"a plot without a name", section(a, plot("", nil)), [2]int{1, 1}, api.ErrName},
		{"a name twice", section(plot("b", box(60, 0, 70, 10)), a, plot("a", nil)), [2]int{2, 2}, api.ErrExists},
		{"a plot without corners", section(a, plot("b", nil)), [2]int{1, 1}, api.ErrShape},
		{"a clockwise plot", section(plot("b", bad), plot("", nil)), [2]int{0, 0}, api.ErrOrder},
		{"a corner out of range", section(a, plot("b", points(0, 0, 100001, 0, 0, 1))), [2]int{1, 1}, api.ErrRange},
		{"beyond the section", section(a, plot("b", box(50, 0, 101, 50))), [2]int{1, 1}, api.ErrRange},
		{"outside of it", section(plot("b", box(100, 0, 101, 50))), [2]int{0, 0}, api.ErrRange},
		{"beyond it, and over a plot", section(a, plot("b", box(40, 0, 101, 50))), [2]int{1, 1}, api.ErrRange},
		{"over a plot", section(a, plot("b", box(49, 0, 100, 50))), [2]int{0, 1}, api.ErrClash},
		{"over two plots", section(plot("c", box(60, 60, 70, 70)), a, plot("b", box(50, 0, 60, 50)), plot("d", box(40, 0, 55, 10))), [2]int{1, 3}, api.ErrClash},
		{"the same plot again", section(a, plot("b", box(0, 0, 50, 50))), [2]int{0, 1}, api.ErrClash},
		{"over a plot before a wrong one", section(a, plot("b", box(49, 0, 100, 50)), plot("", nil)), [2]int{0, 1}, api.ErrClash},
		{"a wrong plot before an overlap", section(a, plot("", nil), plot("b", box(49, 0, 100, 50))), [2]int{1, 1}, api.ErrName},
	} {
		if at, e := ground.CheckSection(c.s); at != c.at || e != c.want {
			t.Error(c.what, at, e, "not", c.at, c.want)
		}
	}
}

// P1.3: names are 1 to 12 letters, digits and "-", a letter first.
func TestNamesOfSections(t *testing.T) {
	for _, c := range []struct {
		name string
		want api.Errno
	}{
		{"a", api.OK}, {"Z", api.OK}, {"z", api.OK}, {"A0", api.OK}, {"a9-", api.OK}, {"a--b", api.OK}, {"abcdefghijkl", api.OK},
		{"", api.ErrName}, {"abcdefghijklm", api.ErrName}, {"-a", api.ErrName}, {"0a", api.ErrName}, {"a b", api.ErrName}, {"a_", api.ErrName},
		{"@", api.ErrName}, {"[", api.ErrName}, {"`", api.ErrName}, {"{", api.ErrName}, {"a/", api.ErrName}, {"a:", api.ErrName}, {"a\n", api.ErrName},
		{"ä", api.ErrName}, {"aä", api.ErrName}, {"a\x00", api.ErrName}, {"a\xff", api.ErrName}, {strings.Repeat("a", 100000), api.ErrName},
	} {
		s := section()
		s.Name = c.name
		if _, e := ground.CheckSection(s); e != c.want {
			t.Errorf("section %.20q: %d", c.name, e)
		}
		if _, e := ground.CheckSection(section(plot(c.name, box(0, 0, 1, 1)))); e != c.want {
			t.Errorf("plot %.20q: %d", c.name, e)
		}
	}
}

// P1.3 and P1.9: the gap, and that areas add up.
func TestGap(t *testing.T) {
	for _, c := range []struct {
		what string
		s    api.Section
		want int
		err  api.Errno
	}{
		{"the example", example(), 5000, api.OK},
		{"no plots", section(), 20000, api.OK},
		{"60 plots", field(60), 8000, api.OK},
		{"everything", section(plot("a", box(0, 0, 100, 100))), 0, api.OK},
		{"a wrong section", api.Section{Name: "s"}, 0, api.ErrShape},
		{"a wrong plot", section(plot("a", box(0, 0, 101, 100))), 0, api.ErrRange},
	} {
		n, e := ground.Gap(c.s)
		if n != c.want || e != c.err {
			t.Error(c.what, n, e)
		}
		for _, p := range c.s.Plots {
			area, _ := ground.Area(p.Corners)
			n += area
		}
		if area, _ := ground.Area(c.s.Corners); e == api.OK && n != area {
			t.Error(c.what, "areas do not add up:", n, area)
		}
	}
}

// P1.3: neighbours have a common border, more than a point.
func TestNeighbours(t *testing.T) {
	for _, c := range []struct {
		what string
		s    api.Section
		plot int
		want []int
		err  api.Errno
	}{
		{"the example", example(), 0, []int{1}, api.OK},
		{"the example, b", example(), 1, []int{0}, api.OK},
		{"a corner of a field", field(60), 0, []int{1, 10}, api.OK},
		{"the middle of a field", field(60), 24, []int{14, 23, 25, 34}, api.OK},
		{"the last one of a field", field(60), 59, []int{49, 58}, api.OK},
		{"a lonely plot", section(plot("a", box(0, 0, 1, 1)), plot("b", box(1, 1, 2, 2))), 0, nil, api.OK},
		{"none with this number", example(), 2, nil, api.ErrMissing},
		{"below 0", example(), -1, nil, api.ErrMissing},
		{"the least number", example(), least, nil, api.ErrMissing},
		{"no plots", section(), 0, nil, api.ErrMissing},
		{"a wrong section", api.Section{}, 5, nil, api.ErrName},
	} {
		if l, e := ground.Neighbours(c.s, c.plot); !slices.Equal(l, c.want) || e != c.err {
			t.Error(c.what, l, e)
		}
	}
}

// P1.3: the first plot at a point, also on its border.
func TestPlotAt(t *testing.T) {
	for _, c := range []struct {
		what string
		s    api.Section
		x, y int
		want int
		err  api.Errno
	}{
		{"inside of a", example(), 10, 10, 0, api.OK},
		{"inside of b", example(), 60, 10, 1, api.OK},
		{"on the border of both", example(), 50, 20, 0, api.OK},
		{"a corner of b", example(), 100, 50, 1, api.OK},
		{"in the gap", example(), 60, 60, 0, api.ErrNone},
		{"outside", example(), -1, 0, 0, api.ErrNone},
		{"out of range", example(), 0, 100001, 0, api.ErrRange},
		{"a wrong section, out of range", api.Section{}, 0, 100001, 0, api.ErrName},
		{"a corner of four", field(60), 20, 20, 11, api.OK},
		{"no plots", section(), 1, 1, 0, api.ErrNone},
	} {
		if n, e := ground.PlotAt(c.s, api.Point{X: c.x, Y: c.y}); n != c.want || e != c.err {
			t.Error(c.what, n, e)
		}
	}
}

// P1.9: areas add up in sections of plots that were laid at random.
func TestAreasAddUp(t *testing.T) {
	s := api.Section{Name: "s", Corners: box(0, 0, 12, 12)}
	for i, p := range anyPolygons(t, 21, 300) {
		more := s
		more.Plots = append(slices.Clone(s.Plots), plot(name(i), moved(p, i*5%9, i*7%9)))
		if _, e := ground.CheckSection(more); e == api.OK {
			s = more
		}
	}
	total, e := ground.Gap(s)
	for _, p := range s.Plots {
		total += mustArea(t, p.Corners)
	}
	if e != api.OK || total != 288 || len(s.Plots) < 10 {
		t.Error(total, e, len(s.Plots))
	}
	for i := range s.Plots {
		l, _ := ground.Neighbours(s, i)
		for k := range s.Plots {
			if k == i {
				continue
			}
			b, e := ground.Border(s.Plots[i].Corners, s.Plots[k].Corners)
			if e != api.OK || slices.Contains(l, k) != (len(b) > 0) {
				t.Error(i, k, l, b, e)
			}
		}
	}
}
