package grave_test

import (
	"math"
	"strconv"
	"strings"
	"testing"

	"mortsafe/api"
	"mortsafe/grave"
)

// changed returns the first site of the examples' yard with a change.
func changed(change func(s *api.Site)) api.Site {
	s := yard().Sites[0]
	change(&s)
	return s
}

// P3.1: sites, with each error and the ends of the ranges.
func TestCheckSite(t *testing.T) {
	for _, s := range yard().Sites {
		if e := grave.CheckSite(s); e != api.OK {
			t.Error(s, e)
		}
	}
	for _, c := range []struct {
		s    api.Site
		want api.Errno
	}{
		{api.Site{}, api.ErrName},
		{changed(func(s *api.Site) { s.Name = "A-9z" }), api.OK},
		{changed(func(s *api.Site) { s.Name = strings.Repeat("a", 12) }), api.OK},
		{changed(func(s *api.Site) { s.Name = strings.Repeat("a", 13) }), api.ErrName},
		{changed(func(s *api.Site) { s.Name = "9a" }), api.ErrName},
		{changed(func(s *api.Site) { s.Name = "-a" }), api.ErrName},
		{changed(func(s *api.Site) { s.Name = "a b" }), api.ErrName},
		{changed(func(s *api.Site) { s.Name = "\u00e4" }), api.ErrName},
		{changed(func(s *api.Site) { s.Kind = -1 }), api.ErrKind},
		{changed(func(s *api.Site) { s.Kind = 4 }), api.ErrKind},
		{changed(func(s *api.Site) { s.Kind = math.MaxInt }), api.ErrKind},
		{changed(func(s *api.Site) { s.Soil = 0 }), api.OK},
		{changed(func(s *api.Site) { s.Soil = 9 }), api.OK},
		{changed(func(s *api.Site) { s.Soil = -1 }), api.ErrRange},
		{changed(func(s *api.Site) { s.Soil = 10 }), api.ErrRange},
		{changed(func(s *api.Site) { s.Depth = 1000 }), api.OK},
		{changed(func(s *api.Site) { s.Depth = 1001 }), api.ErrRange},
		{changed(func(s *api.Site) { s.Depth = -1 }), api.ErrRange},
		{changed(func(s *api.Site) { s.Depth = math.MinInt }), api.ErrRange},
		{changed(func(s *api.Site) { s.Step = -1 }), api.ErrRange},
		{changed(func(s *api.Site) { s.Step = math.MinInt }), api.ErrRange},
		{earth("a", 0, 1000, 300, 4), api.OK},
		{earth("a", 0, 1000, 301, 4), api.ErrRange},
		{earth("a", 0, 1000, 301, 1), api.ErrRange},
		{earth("a", 0, 0, 0, 12), api.OK},
		{earth("a", 0, 0, 0, 13), api.ErrRange},
		{earth("a", 0, 0, 0, 1), api.OK},
		{earth("a", 0, 0, 0, 0), api.ErrRange},
		{earth("a", 0, 0, 0, -1), api.ErrRange},
		{earth("a", 0, 0, 0, math.MinInt), api.ErrRange},
		{earth("a", 0, 0, 0, math.MaxInt), api.ErrRange},
		{earth("a", 0, 1, math.MaxInt, 3), api.ErrRange},
		{earth("a", 0, 0, 300, 1), api.OK},
		{earth("a", 0, 160, 80, 3), api.OK},
		{earth("a", 0, 159, 80, 3), api.ErrForm},
		{earth("a", 0, 1000, 300, 5), api.ErrForm},
		{api.Site{Name: "v", Kind: api.SiteVault, Soil: 3, Room: 12}, api.OK},
		{api.Site{Name: "v", Kind: api.SiteVault, Depth: 1, Room: 12}, api.ErrForm},
		{api.Site{Name: "v", Kind: api.SiteVault, Step: 1, Room: 1}, api.ErrForm},
		{api.Site{Name: "v", Kind: api.SiteVault, Step: 301, Room: 1}, api.ErrRange},
		{api.Site{Name: "n", Kind: api.SiteNiche, Room: 12}, api.OK},
		{api.Site{Name: "n", Kind: api.SiteNiche, Depth: 1, Room: 1}, api.ErrForm},
		{api.Site{Name: "n", Kind: api.SiteNiche, Step: 1, Room: 1}, api.ErrForm},
		{api.Site{Name: "s", Kind: api.SiteScatter, Soil: 9, Room: 1}, api.OK},
		{api.Site{Name: "s", Kind: api.SiteScatter, Room: 2}, api.ErrForm},
		{api.Site{Name: "s", Kind: api.SiteScatter, Room: 0}, api.ErrRange},
		{api.Site{Name: "s", Kind: api.SiteScatter, Depth: 1, Room: 1}, api.ErrForm},
		{api.Site{Name: "s", Kind: api.SiteScatter, Step: 1, Room: 1}, api.ErrForm},
		{api.Site{Name: "", Kind: 9, Room: 0}, api.ErrName},
		{api.Site{Name: "a", Kind: 9, Room: 0}, api.ErrKind},
		{api.Site{Name: "a", Kind: api.SiteVault, Soil: 10, Depth: 1, Room: 1}, api.ErrRange},
	} {
		if e := grave.CheckSite(c.s); e != c.want {
			t.Errorf("%v: %d, want %d", c.s, e, c.want)
		}
	}
}

// The first letters of names and the further ones, up to the ends of their ranges.
func TestNames(t *testing.T) {
	for c := range 256 {
		s := string([]byte{byte(c)})
		isLetter := 'a' <= c && c <= 'z' || 'A' <= c && c <= 'Z'
		isFurther := isLetter || '0' <= c && c <= '9' || c == '-'
		for name, is := range map[string]bool{s: isLetter, s + "x": isLetter, "x" + s: isFurther, "x" + s + "y": isFurther} {
			asSite := grave.CheckSite(earth(name, 0, 0, 0, 1))
			ofEvent := grave.CheckEvent(bury(5, name, 0, "x", 0))
			asRemain := grave.CheckEvent(gather(5, name))
			if asSite != asRemain || asSite != ofEvent || is != (asSite == api.OK) || !is && asSite != api.ErrName {
				t.Errorf("%q: %d %d %d", name, asSite, ofEvent, asRemain)
			}
		}
	}
}

func sites(n int) []api.Site {
	var l []api.Site
	for i := range n {
		l = append(l, earth("a"+strconv.Itoa(i), 0, 0, 0, 1))
	}
	return l
}

// rests returns n resting periods; there are no more than 30 of them that differ.
func rests(n int) []api.Rest {
	var l []api.Rest
	for i := range n {
		l = append(l, api.Rest{Soil: i / 3, Container: i % 3, Days: i})
	}
	return l
}

// P3.1: yards, with each error, element by element, and in the order of the fields.
func TestCheckYard(t *testing.T) {
	a := earth("a", 0, 0, 0, 1)
	ofSites := func(l ...api.Site) api.Yard { return api.Yard{Sites: l} }
	ofRests := func(l ...api.Rest) api.Yard { return api.Yard{Rests: l} }
	for _, c := range []struct {
		what string
		y    api.Yard
		want api.Errno
	}{
		{"nothing", api.Yard{}, api.OK},
		{"the example", yard(), api.OK},
		{"60 sites", api.Yard{Sites: sites(60)}, api.OK},
		{"61 sites", api.Yard{Sites: sites(61)}, api.ErrLarge},
		{"61 wrong sites", api.Yard{Sites: make([]api.Site, 61)}, api.ErrLarge},
		{"a wrong site behind", ofSites(a, api.Site{Name: "b"}), api.ErrRange},
		{"a name twice", ofSites(a, earth("b", 0, 0, 0, 1), api.Site{Name: "a", Kind: api.SiteVault, Room: 1}), api.ErrExists},
		{"a name twice, and wrong", ofSites(a, api.Site{Name: "a"}), api.ErrRange},
		{"a name twice before a wrong site", ofSites(a, a, api.Site{}), api.ErrExists},
		{"a wrong site before a name twice", ofSites(a, api.Site{}, a), api.ErrName},
		{"names that differ in case", ofSites(a, earth("A", 0, 0, 0, 1)), api.OK},
		{"a wrong site before too many rests", api.Yard{Sites: make([]api.Site, 1), Rests: rests(41)}, api.ErrName},
		{"30 rests", api.Yard{Rests: rests(30)}, api.OK},
		{"40 rests", api.Yard{Rests: make([]api.Rest, 40)}, api.ErrExists},
		{"41 rests", api.Yard{Rests: make([]api.Rest, 41)}, api.ErrLarge},
		{"41 rests and wrong covers", api.Yard{Rests: rests(41), Covers: [3]int{-1}}, api.ErrLarge},
		{"soil 9", ofRests(api.Rest{Soil: 9, Container: api.Ashes, Days: 100000}), api.OK},
		{"soil 10", ofRests(api.Rest{Soil: 10}), api.ErrRange},
		{"soil -1", ofRests(api.Rest{Soil: -1}), api.ErrRange},
		{"container 3", ofRests(api.Rest{Container: 3}), api.ErrRange},
		{"container -1", ofRests(api.Rest{Container: -1}), api.ErrRange},
		{"days -1", ofRests(api.Rest{Days: -1}), api.ErrRange},
		{"too many days", ofRests(api.Rest{Days: 100001}), api.ErrRange},
		{"the most days", ofRests(api.Rest{Days: math.MaxInt}), api.ErrRange},
		{"a rest twice", ofRests(api.Rest{Days: 1}, api.Rest{Soil: 1}, api.Rest{Days: 2}), api.ErrExists},
		{"a rest twice, and wrong", ofRests(api.Rest{}, api.Rest{Days: -1}), api.ErrRange},
		{"a rest twice before a wrong one", ofRests(api.Rest{}, api.Rest{}, api.Rest{Days: -1}), api.ErrExists},
		{"a wrong rest before one twice", ofRests(api.Rest{}, api.Rest{Days: -1, Soil: 2}, api.Rest{}), api.ErrRange},
		{"one soil, two containers", ofRests(api.Rest{}, api.Rest{Container: 1}), api.OK},
		{"two soils, one container", ofRests(api.Rest{}, api.Rest{Soil: 1}), api.OK},
		{"a rest twice and wrong covers", api.Yard{Rests: make([]api.Rest, 2), Covers: [3]int{-1}}, api.ErrExists},
		{"covers", api.Yard{Covers: [3]int{0, 1000, 1000}}, api.OK},
		{"a cover too deep", api.Yard{Covers: [3]int{1001, 0, 0}}, api.ErrRange},
		{"a second one too deep", api.Yard{Covers: [3]int{0, 1001, 0}}, api.ErrRange},
		{"a third one too deep", api.Yard{Covers: [3]int{0, 0, 1001}}, api.ErrRange},
		{"a cover above the ground", api.Yard{Covers: [3]int{0, 0, -1}}, api.ErrRange},
	} {
		if e := grave.CheckYard(c.y); e != c.want {
			t.Errorf("%s: %d, want %d", c.what, e, c.want)
		}
	}
}

// P3.2: rests by soil and container, with the chapter's example 1.
func TestRestOf(t *testing.T) {
	y := yard()
	y.Sites = append(y.Sites, earth("b", 2, 0, 0, 1), api.Site{Name: "w", Kind: api.SiteVault, Soil: 1, Room: 1})
	y.Rests = append(y.Rests, api.Rest{Soil: 2, Container: api.Ashes, Days: 5})
	for _, c := range []struct {
		site      string
		container int
		days      int
		want      api.Errno
	}{
		{"a", api.Coffin, 7300, api.OK},
		{"a", api.Urn, 3650, api.OK},
		{"a", api.Ashes, 0, api.OK},
		{"v", api.Coffin, 0, api.OK},
		{"w", api.Coffin, 7300, api.OK},
		{"b", api.Coffin, 0, api.OK},
		{"b", api.Ashes, 5, api.OK},
		{"s", api.Ashes, 0, api.OK},
		{"q", api.Coffin, 0, api.ErrMissing},
		{"", api.Coffin, 0, api.ErrMissing},
		{"q", 3, 0, api.ErrMissing},
		{"a", 3, 0, api.ErrRange},
		{"a", -1, 0, api.ErrRange},
	} {
		if n, e := grave.RestOf(y, c.site, c.container); n != c.days || e != c.want {
			t.Errorf("%s %d: %d %d", c.site, c.container, n, e)
		}
	}
	if n, e := grave.RestOf(wrongYard(), "q", 3); n != 0 || e != api.ErrName {
		t.Error(n, e)
	}
}

// P3.2: depths, with the chapter's example 1.
func TestDepthOf(t *testing.T) {
	for _, c := range []struct {
		site  string
		level int
		depth int
		want  api.Errno
	}{
		{"a", 0, 240, api.OK},
		{"a", 1, 160, api.OK},
		{"a", 2, 80, api.OK},
		{"a", 3, 0, api.ErrRange},
		{"a", -1, 0, api.ErrRange},
		{"a", math.MaxInt, 0, api.ErrRange},
		{"a", math.MinInt, 0, api.ErrRange},
		{"v", 0, 0, api.OK},
		{"v", 1, 0, api.OK},
		{"v", 2, 0, api.ErrRange},
		{"n", 1, 0, api.OK},
		{"s", 0, 0, api.OK},
		{"s", 1, 0, api.ErrRange},
		{"q", 0, 0, api.ErrMissing},
		{"q", -1, 0, api.ErrMissing},
	} {
		if n, e := grave.DepthOf(yard(), c.site, c.level); n != c.depth || e != c.want {
			t.Errorf("%s %d: %d %d", c.site, c.level, n, e)
		}
	}
	if n, e := grave.DepthOf(wrongYard(), "q", -1); n != 0 || e != api.ErrName {
		t.Error(n, e)
	}
}

// P3.2: what levels take, with the chapter's example 1.
func TestTakes(t *testing.T) {
	y := yard()
	y.Sites = append(y.Sites, earth("b", 0, 150, 90, 2), earth("c", 0, 149, 90, 2), earth("d", 0, 0, 0, 1))
	for _, c := range []struct {
		site  string
		level int
		takes [3]bool // of a coffin, an urn, ashes
	}{
		{"a", 0, [3]bool{true, true, false}},
		{"a", 1, [3]bool{true, true, false}},
		{"a", 2, [3]bool{false, true, false}},
		{"b", 0, [3]bool{true, true, false}},
		{"b", 1, [3]bool{false, true, false}},
		{"c", 0, [3]bool{false, true, false}},
		{"c", 1, [3]bool{false, false, false}},
		{"d", 0, [3]bool{false, false, false}},
		{"v", 0, [3]bool{true, true, false}},
		{"v", 1, [3]bool{true, true, false}},
		{"n", 1, [3]bool{false, true, false}},
		{"s", 0, [3]bool{false, false, true}},
	} {
		for container := range 3 {
			if is, e := grave.Takes(y, c.site, c.level, container); is != c.takes[container] || e != api.OK {
				t.Errorf("%s %d %d: %v %d", c.site, c.level, container, is, e)
			}
		}
	}
	y.Covers = [3]int{}
	if is, e := grave.Takes(y, "d", 0, api.Ashes); is || e != api.OK {
		t.Error("ashes in the earth:", is, e)
	}
}

// P3.2: the errors of Takes.
func TestTakesErrors(t *testing.T) {
	for _, c := range []struct {
		y                api.Yard
		site             string
		level, container int
		want             api.Errno
	}{
		{wrongYard(), "q", -1, -1, api.ErrName},
		{yard(), "q", -1, -1, api.ErrMissing},
		{yard(), "a", 3, api.Urn, api.ErrRange},
		{yard(), "a", -1, api.Urn, api.ErrRange},
		{yard(), "a", 0, -1, api.ErrRange},
		{yard(), "a", 0, 3, api.ErrRange},
		{yard(), "v", 0, 3, api.ErrRange},
		{yard(), "s", 0, 3, api.ErrRange},
		{yard(), "s", 0, math.MinInt, api.ErrRange},
	} {
		if is, e := grave.Takes(c.y, c.site, c.level, c.container); is || e != c.want {
			t.Errorf("%s %d %d: %v %d", c.site, c.level, c.container, is, e)
		}
	}
}
