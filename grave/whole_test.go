package grave_test

import (
	"fmt"
	"math/rand"
	"reflect"
	"slices"
	"testing"

	"mortsafe/api"
	"mortsafe/grave"
)

// berth is a place of the model below; a remain lies at a berth, or at none.
type berth struct {
	site  string
	level int
}

// model is an independent state of a yard: it is kept by places, not by stays, and its
// sites have what they take written out.
type model struct {
	day   int
	at    map[berth]string
	from  map[string]berth
	box   map[string]int
	since map[string]int
	state map[string]string // "kept", "lies", "gathered", "scattered"
	where map[string]string // the site of what was scattered
}

func newModel() *model {
	return &model{
		at: map[berth]string{}, from: map[string]berth{}, box: map[string]int{}, since: map[string]int{},
		state: map[string]string{}, where: map[string]string{},
	}
}

// smallYard has short rests, so that many random events are accepted.
func smallYard() api.Yard {
	return api.Yard{
		Sites: []api.Site{
			earth("e", 1, 200, 60, 3), earth("d", 2, 100, 0, 4),
			{Name: "v", Kind: api.SiteVault, Soil: 1, Room: 2}, {Name: "n", Kind: api.SiteNiche, Soil: 3, Room: 2},
			{Name: "s", Kind: api.SiteScatter, Soil: 1, Room: 1},
		},
		Rests: []api.Rest{
			{Soil: 1, Container: api.Coffin, Days: 9}, {Soil: 1, Container: api.Urn, Days: 4},
			{Soil: 2, Container: api.Coffin, Days: 6}, {Soil: 3, Container: api.Urn, Days: 3}, {Soil: 1, Container: api.Ashes, Days: 50},
		},
		Covers: [3]int{90, 40, 0},
	}
}

// The small yard, written out: how many levels its sites have, whether a level takes a
// coffin, an urn, ashes, and how long these rest there.
var (
	room  = map[string]int{"e": 3, "d": 4, "v": 2, "n": 2, "s": 1}
	takes = map[berth][3]bool{
		{"e", 0}: {true, true, false}, {"e", 1}: {true, true, false}, {"e", 2}: {false, true, false},
		{"d", 0}: {true, true, false}, {"d", 1}: {true, true, false}, {"d", 2}: {true, true, false}, {"d", 3}: {true, true, false},
		{"v", 0}: {true, true, false}, {"v", 1}: {true, true, false}, {"n", 0}: {false, true, false}, {"n", 1}: {false, true, false},
		{"s", 0}: {false, false, true},
	}
	restDays = map[string][3]int{"e": {9, 4, 50}, "d": {6, 0, 0}, "v": {9, 4, 50}, "n": {0, 3, 0}, "s": {9, 4, 50}}
)

func (m *model) covered(b berth) bool {
	if b.site != "e" && b.site != "d" {
		return false
	}
	for up := b.level + 1; up < 12; up++ {
		if m.at[berth{b.site, up}] != "" {
			return true
		}
	}
	return false
}

func (m *model) placeError(b berth, container int) api.Errno {
	switch levels, is := room[b.site]; {
	case !is:
		return api.ErrMissing
	case b.level >= levels:
		return api.ErrRange
	case !takes[b][container]:
		return api.ErrKind
	case m.at[b] != "":
		return api.ErrFull
	case m.covered(b):
		return api.ErrBusy
	}
	return api.OK
}

func (m *model) lowerError(e api.Event) api.Errno {
	b := m.from[e.Remain]
	switch {
	case b.site != "e" && b.site != "d":
		return api.ErrKind
	case e.Level >= b.level:
		return api.ErrRange
	}
	for level := b.level - 1; level >= e.Level; level-- {
		if m.at[berth{b.site, level}] != "" {
			return api.ErrFull
		}
	}
	return api.OK
}

func (m *model) takeError(e api.Event) api.Errno {
	b := m.from[e.Remain]
	switch {
	case m.covered(b):
		return api.ErrBusy
	case !e.Order && e.Day-m.since[e.Remain] < restDays[b.site][m.box[e.Remain]]:
		return api.ErrRest
	}
	return api.OK
}

// wrong is the error of an event that is right by itself.
func (m *model) wrong(e api.Event) api.Errno {
	state, has := m.state[e.Remain]
	switch {
	case e.Day < m.day:
		return api.ErrOrder
	case e.Kind == api.Bury && has:
		return api.ErrExists
	case e.Kind != api.Bury && !has:
		return api.ErrMissing
	case e.Kind == api.Rebury && state != "kept":
		return api.ErrState
	case e.Kind == api.Bury || e.Kind == api.Rebury:
		return m.placeError(berth{e.Site, e.Level}, e.Container)
	case state != "lies":
		return api.ErrState
	case e.Kind == api.Lower && m.lowerError(e) != api.OK:
		return m.lowerError(e)
	}
	return m.takeError(e)
}

func (m *model) do(e api.Event) {
	m.day = e.Day
	m.since[e.Remain] = e.Day
	b := berth{e.Site, e.Level}
	switch e.Kind {
	case api.Lower:
		b.site = m.from[e.Remain].site
		delete(m.at, m.from[e.Remain])
		m.at[b], m.from[e.Remain] = e.Remain, b
		return
	case api.Exhume, api.Gather:
		delete(m.at, m.from[e.Remain])
		delete(m.from, e.Remain)
		m.state[e.Remain] = map[int]string{api.Exhume: "kept", api.Gather: "gathered"}[e.Kind]
		return
	}
	if e.Site == "s" {
		m.state[e.Remain], m.where[e.Remain] = "scattered", e.Site
		return
	}
	m.state[e.Remain], m.at[b], m.from[e.Remain], m.box[e.Remain] = "lies", e.Remain, b, e.Container
}

func (m *model) lot(remain string) api.Lot {
	b, since := m.from[remain], m.since[remain]
	switch m.state[remain] {
	case "lies":
		return lies(remain, b.site, b.level, m.box[remain], since)
	case "gathered":
		return gathered(remain, since)
	case "scattered":
		return scattered(remain, m.where[remain], since)
	}
	return kept(remain, since)
}

func (m *model) lots() []api.Lot {
	var names []string
	for name := range m.state {
		names = append(names, name)
	}
	slices.Sort(names)
	var l []api.Lot
	for _, name := range names {
		l = append(l, m.lot(name))
	}
	return l
}

func (m *model) free(container int) []api.Berth {
	var l []api.Berth
	for _, site := range []string{"e", "d", "v", "n", "s"} {
		for level := range room[site] {
			if m.placeError(berth{site, level}, container) == api.OK {
				l = append(l, api.Berth{Site: site, Level: level})
			}
		}
	}
	return l
}

// reusable tells of the small yard's sites whether something lies there, and its
// rest is over.
func (m *model) reusable(day int) []string {
	var l []string
	for _, site := range []string{"e", "d", "v", "n", "s"} {
		lying, resting := 0, 0
		for b, remain := range m.at {
			if b.site == site {
				lying++
				if day < m.since[remain]+restDays[site][m.box[remain]] {
					resting++
				}
			}
		}
		if lying > 0 && resting == 0 {
			l = append(l, site)
		}
	}
	return l
}

func randomEvent(r *rand.Rand, day int) api.Event {
	remain := string(rune('A' + r.Intn(9)))
	site := []string{"e", "e", "d", "d", "d", "v", "n", "s", "q"}[r.Intn(9)]
	level, container := r.Intn(4), r.Intn(3)
	if site == "s" && r.Intn(3) > 0 {
		remain, level, container = remain+fmt.Sprint(r.Intn(9)), 0, api.Ashes
	}
	switch e := exhume(day, remain); r.Intn(14) {
	case 0:
		return e
	case 1:
		return byOrder(e)
	case 2:
		return gather(day, remain)
	case 3, 4, 5:
		return lower(day, level, remain)
	case 6, 7, 8:
		return byOrder(lower(day, level, remain))
	case 9, 10:
		return rebury(day, site, level, remain, container)
	}
	return bury(day, site, level, remain, container)
}

// randomHistory returns accepted events of the small yard, and checks that every
// random event has the error that the model tells.
func randomHistory(t *testing.T, r *rand.Rand, most int) []api.Event {
	m, y := newModel(), smallYard()
	var l []api.Event
	for range 3 * most {
		e := randomEvent(r, max(0, m.day+r.Intn(5)-1))
		want := m.wrong(e)
		more, got := grave.Add(y, l, e)
		if got != want {
			t.Fatalf("%v behind %v: %d, want %d", e, l, got, want)
		}
		if got == api.OK {
			m.do(e)
			l = more
		}
		if len(l) == most {
			break
		}
	}
	return l
}

// P3.3, P3.4, P3.6, P3.7: what the functions tell is what an independent model tells.
func TestModel(t *testing.T) {
	y := smallYard()
	kinds := map[string]int{}
	for seed := range 300 {
		r := rand.New(rand.NewSource(int64(seed)))
		l := randomHistory(t, r, 40)
		m, next := newModel(), 0
		for day := range l[len(l)-1].Day + 3 {
			for ; next < len(l) && l[next].Day == day; next++ {
				m.do(l[next])
				kinds[fmt.Sprint(l[next].Kind, l[next].Order)]++
			}
			checkDay(t, y, l, day, m)
		}
		if lots, n, e := grave.Replay(y, l); !same(lots, m.lots()) || n != len(l) || e != api.OK {
			t.Fatal(l, lots, n, e)
		}
		checkEnd(t, y, l, m)
	}
	for _, kind := range []string{"0 false", "1 false", "1 true", "2 false", "3 false", "3 true", "4 false"} {
		if kinds[kind] < 50 {
			t.Error("few events of the kind", kind, kinds)
		}
	}
}

func checkDay(t *testing.T, y api.Yard, l []api.Event, day int, m *model) {
	t.Helper()
	if lots, e := grave.On(y, l, day); !same(lots, m.lots()) || e != api.OK {
		t.Fatalf("%v on %d: %v %d, want %v", l, day, lots, e, m.lots())
	}
	for container := range 3 {
		if free, e := grave.Free(y, l, container, day); !same(free, m.free(container)) || e != api.OK {
			t.Fatalf("%v on %d: %v %d, want %v", l, day, free, e, m.free(container))
		}
	}
	if sites, e := grave.Reusable(y, l, day); !same(sites, m.reusable(day)) || e != api.OK {
		t.Fatalf("%v on %d: %v %d, want %v", l, day, sites, e, m.reusable(day))
	}
	for _, site := range []string{"e", "d", "v", "n", "s"} {
		var there []api.Lot
		for level := range room[site] {
			for _, lot := range m.lots() {
				if lot.Site == site && lot.Level == level {
					there = append(there, lot)
				}
			}
		}
		if lots, e := grave.Within(y, l, site, day); !same(lots, there) || e != api.OK {
			t.Fatalf("%v on %d: %v %d, want %v", l, day, lots, e, there)
		}
	}
	checkFirstFree(t, y, l, day, m)
}

func checkFirstFree(t *testing.T, y api.Yard, l []api.Event, day int, m *model) {
	t.Helper()
	for b := range takes {
		for container := range 3 {
			level, want := 0, api.ErrFull
			for up := room[b.site] - 1; up >= b.level; up-- {
				if m.placeError(berth{b.site, up}, container) == api.OK {
					level, want = up, api.OK
				}
			}
			at := api.Berth{Site: b.site, Level: b.level}
			if n, e := grave.FirstFree(y, l, at, container, day); n != level || e != want {
				t.Fatalf("%v on %d at %v: %d %d, want %d %d", l, day, at, n, e, level, want)
			}
		}
	}
}

// checkEnd checks what is told behind all events.
func checkEnd(t *testing.T, y api.Yard, l []api.Event, m *model) {
	t.Helper()
	for _, lot := range m.lots() {
		day, e := grave.RestOver(y, l, lot.Remain)
		if lot.State != api.Lies {
			if day != 0 || e != api.ErrState {
				t.Fatal(l, lot, day, e)
			}
		} else if day != lot.Since+restDays[lot.Site][lot.Container] || e != api.OK {
			t.Fatal(l, lot, day, e)
		}
	}
	for site := range room {
		for container := range 3 {
			left, e := grave.Left(y, l, site, container)
			if site == "s" {
				if left != 0 || e != api.ErrKind {
					t.Fatal(l, left, e)
				}
			} else if want := mostBurials(y, l, site, container, m.day); left != want || e != api.OK {
				t.Fatalf("%v: left at %s of %d: %d %d, want %d", l, site, container, left, e, want)
			}
		}
	}
}

// mostBurials tries all orders of burials at a site.
func mostBurials(y api.Yard, l []api.Event, site string, container, day int) int {
	most := 0
	for level := range room[site] {
		more, e := grave.Add(y, l, bury(day, site, level, fmt.Sprint("new", len(l)), container))
		if e == api.OK {
			most = max(most, 1+mostBurials(y, more, site, container, day))
		}
	}
	return most
}

// P3.5, P3.9: stays follow each other without gaps, and the lots of a day are those
// that have begun and have not ended.
func TestStaysAndDays(t *testing.T) {
	y := smallYard()
	for seed := range 100 {
		l := randomHistory(t, rand.New(rand.NewSource(int64(1000+seed))), 60)
		last := l[len(l)-1].Day
		end, _, _ := grave.Replay(y, l)
		if lots, e := grave.On(y, l, last); !reflect.DeepEqual(lots, end) || e != api.OK {
			t.Fatal("on the last day:", lots, end)
		}
		stays := map[string][]api.Stay{}
		for _, lot := range end {
			stays[lot.Remain], _ = grave.Stays(y, l, lot.Remain)
			checkChain(t, stays[lot.Remain], l, lot)
		}
		for day := range last + 2 {
			var want []api.Lot
			for _, lot := range end {
				for _, s := range stays[lot.Remain] {
					if s.Lot.Since <= day && (s.To == -1 || day < s.To) {
						want = append(want, s.Lot)
					}
				}
			}
			if lots, e := grave.On(y, l, day); !same(lots, want) || e != api.OK {
				t.Fatal(l, day, lots, want)
			}
		}
		checkLevels(t, y, l, stays)
	}
}

func checkChain(t *testing.T, stays []api.Stay, l []api.Event, last api.Lot) {
	t.Helper()
	var days []int
	for _, e := range l {
		if e.Remain == last.Remain {
			days = append(days, e.Day)
		}
	}
	if len(stays) != len(days) || stays[len(stays)-1] != stay(last, -1) {
		t.Fatal(l, stays, last)
	}
	for i, s := range stays {
		if s.Lot.Since != days[i] || i+1 < len(stays) && s.To != days[i+1] {
			t.Fatal(l, stays)
		}
		if i+1 < len(stays) && (s.Lot.State == api.Gathered || s.Lot.State == api.Scattered) {
			t.Fatal("what is gathered or scattered stays so:", stays)
		}
	}
}

// checkLevels gathers the stays of a level from those of the remains, by numbers of
// events.
func checkLevels(t *testing.T, y api.Yard, l []api.Event, stays map[string][]api.Stay) {
	t.Helper()
	want := map[berth][]api.Stay{}
	count := map[string]int{}
	for _, e := range l {
		s := stays[e.Remain][count[e.Remain]]
		count[e.Remain]++
		if s.Lot.Site != "" {
			b := berth{s.Lot.Site, s.Lot.Level}
			want[b] = append(want[b], s)
		}
	}
	for site, levels := range room {
		got, e := grave.Levels(y, l, site)
		if len(got) != levels || e != api.OK {
			t.Fatal(l, site, got, e)
		}
		for level := range got {
			if !same(got[level], want[berth{site, level}]) {
				t.Fatal(l, site, level, got[level])
			}
		}
	}
}

// P3.9: no two remains lie at one level, nothing is moved from below another remain, and
// nothing before its rest is over without an order.
func TestWhatIsMoved(t *testing.T) {
	y := smallYard()
	for seed := range 100 {
		l := randomHistory(t, rand.New(rand.NewSource(int64(2000+seed))), 60)
		for i, e := range l {
			before, _, _ := grave.Replay(y, l[:i])
			lying := map[berth]api.Lot{}
			var moved api.Lot
			for _, lot := range before {
				if lot.State != api.Lies {
					continue
				}
				if there, is := lying[berth{lot.Site, lot.Level}]; is {
					t.Fatal("two lie at one level:", there, lot)
				}
				lying[berth{lot.Site, lot.Level}] = lot
				if lot.Remain == e.Remain {
					moved = lot
				}
			}
			if moved.Remain == "" {
				continue
			}
			if over, _ := grave.RestOver(y, l[:i], e.Remain); !e.Order && e.Day < over {
				t.Fatal("before its rest is over:", e, moved)
			}
			for level := moved.Level + 1; level < 4; level++ {
				if _, is := lying[berth{moved.Site, level}]; is && (moved.Site == "e" || moved.Site == "d") {
					t.Fatal("from below another one:", e, moved)
				}
			}
		}
	}
}

// P3.7, P3.9: the events of GatherAll are accepted, and leave nothing lying there.
func TestGatherAllEmpties(t *testing.T) {
	y := smallYard()
	gathered := 0
	for seed := range 200 {
		l := randomHistory(t, rand.New(rand.NewSource(int64(3000+seed))), 30)
		last := l[len(l)-1].Day
		for site := range room {
			for day := last - 1; day < last+12; day++ {
				events, e := grave.GatherAll(y, l, site, day)
				if want := gatherError(y, l, site, day); e != want {
					t.Fatal(l, site, day, events, e, want)
				}
				if e != api.OK {
					continue
				}
				gathered += len(events)
				lots, n, wrong := grave.Replay(y, slices.Concat(l, events))
				if n != len(l)+len(events) || wrong != api.OK {
					t.Fatal(l, events, n, wrong)
				}
				for _, lot := range lots {
					if lot.State == api.Lies && lot.Site == site {
						t.Fatal(l, events, lot)
					}
				}
			}
		}
	}
	if gathered < 1000 {
		t.Error("little is gathered:", gathered)
	}
}

func gatherError(y api.Yard, l []api.Event, site string, day int) api.Errno {
	if day < 0 {
		return api.ErrRange
	}
	if day < l[len(l)-1].Day {
		return api.ErrOrder
	}
	lots, _, _ := grave.Replay(y, l)
	for _, lot := range lots {
		if over, _ := grave.RestOver(y, l, lot.Remain); lot.State == api.Lies && lot.Site == site && over > day {
			return api.ErrRest
		}
	}
	return api.OK
}

// P3.8, P3.9: Parse undoes Print of random events.
func TestParseUndoesPrint(t *testing.T) {
	y := smallYard()
	for seed := range 100 {
		l := randomHistory(t, rand.New(rand.NewSource(int64(4000+seed))), 80)
		s, e := grave.Print(y, l)
		if e != api.OK {
			t.Fatal(l, e)
		}
		checkParse(t, "printed", s, y, l, 0, api.OK)
		for _, v := range l {
			text, _ := grave.FormatEvent(v)
			if back, e := grave.ParseEvent(text); back != v || e != api.OK {
				t.Fatal(text, back, e)
			}
		}
	}
}
