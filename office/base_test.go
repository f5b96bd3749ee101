package office_test

import (
	"strconv"
	"testing"

	"mortsafe/api"
	"mortsafe/office"
)

// P10.1: bases are right up to the ends of all ranges.
func TestRightBases(t *testing.T) {
	laws := repeat(10, func(i int) api.Law { return api.Law{From: i, Spouse: api.Frac{Num: 1, Den: 16}} })
	sites := repeat(60, func(i int) api.Site { return api.Site{Name: "s" + strconv.Itoa(i), Kind: api.SiteNiche, Room: 12} })
	for i, b := range []api.Base{{}, {Notes: 1}, {Notes: 60}, base(), quarters(), {Laws: laws}, {Yard: api.Yard{Sites: sites}, Notes: 60, Laws: laws}} {
		if e := office.CheckBase(b); e != api.OK {
			t.Error(i, e)
		}
		o, e := office.New("main", b)
		if o == nil || e != api.OK {
			t.Error("New", i, e)
		}
	}
}

// P10.1: the errors of a base, which all functions with a base tell before those of the other
// arguments: first those of the yard, then that of the number of register entries, then those of
// the laws.
func TestWrongBases(t *testing.T) {
	all := allOfBases()
	wrongLaws := []api.Law{{From: -1}}
	for want, y := range map[api.Errno]api.Yard{
		api.ErrName:   {Sites: []api.Site{{Name: "", Room: 1}}},
		api.ErrKind:   {Sites: []api.Site{{Name: "a", Kind: 4, Room: 1}}},
		api.ErrRange:  {Covers: [3]int{0, 0, 1001}},
		api.ErrForm:   {Sites: []api.Site{{Name: "a", Step: 1, Room: 2}}},
		api.ErrExists: {Rests: make([]api.Rest, 2)},
		api.ErrLarge:  {Sites: make([]api.Site, 61)},
	} {
		for _, b := range []api.Base{{Yard: y}, {Yard: y, Notes: 60}, {Yard: y, Notes: -1, Laws: wrongLaws}, {Yard: y, Notes: 61}, {Yard: y, Laws: make([]api.Law, 11)}} {
			checkAll(t, "a base with a wrong yard", all, b, want)
		}
	}
	for _, n := range with(extremes, 61) {
		for _, b := range []api.Base{{Notes: n}, {Yard: yard(), Notes: n, Laws: quarters().Laws}, {Notes: n, Laws: make([]api.Law, 11)}} {
			checkAll(t, "a base with "+strconv.Itoa(n)+" entries of registers", all, b, api.ErrRange)
		}
	}
	quarter := api.Frac{Num: 1, Den: 4}
	for want, laws := range map[api.Errno][]api.Law{
		api.ErrLarge: make([]api.Law, 11), api.ErrRange: {{From: 200001, Spouse: quarter}}, api.ErrForm: {{Spouse: api.Frac{Num: 1, Den: 17}}},
		api.ErrOrder: {{From: 5, Spouse: quarter}, {From: 5, Spouse: quarter}},
	} {
		checkAll(t, "a base with wrong laws", all, api.Base{Yard: yard(), Notes: 60, Laws: laws}, want)
	}
}
