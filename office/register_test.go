package office_test

import (
	"testing"

	"mortsafe/api"
	"mortsafe/office"
)

// P10.6: a line for each remain that has a lot, by names.
func TestRegister(t *testing.T) {
	for at, want := range map[[2]int]string{
		{9, 60}: "", {60, 9}: "", {60, 10}: "x: at a 0 since 10\n", {10, 60}: "x: at a 0 since 10\n", {60, 20}: "t: scattered at s since 20\nx: at a 0 since 10\ny: at a 1 since 20\n",
		{60, 40}:         "p: scattered at s since 30\nt: scattered at s since 20\nu: at v 0 since 25\nw: gathered since 40\nx: at a 0 since 10\ny: in keeping since 30\n",
		{200000, 200000}: "p: scattered at s since 30\nq: at a 2 since 60\nt: scattered at s since 20\nu: at v 0 since 25\nw: gathered since 40\nx: at a 0 since 10\ny: at n 1 since 50\nz: at a 1 since 60\n",
	} {
		s, e := office.Register(base(), graves(), at)
		check(t, "Register", s, e, want)
	}
	for known, want := range map[int]string{
		99: "", 204: "x: at a 0 since 100\nz: at a 1 since 150\n", 299: "x: at a 0 since 100\nz: at a 1 since 150\n", 300: "x: at a 0 since 100\ny: at a 1 since 200\n",
	} {
		s, e := office.Register(base(), story(), [2]int{known, 300})
		check(t, "Register", s, e, want)
	}
}

// P10.6: a line for each site, in the order of the yard.
func TestMap(t *testing.T) {
	for at, want := range map[[2]int]string{
		{9, 60}: "a: nothing\nv: nothing\nn: nothing\ns: nothing\n", {60, 20}: "a: 0 x, 1 y\nv: nothing\nn: nothing\ns: 0 t\n", {60, 30}: "a: 0 x\nv: 0 u, 1 w\nn: nothing\ns: 0 p, 0 t\n",
		{200000, 200000}: "a: 0 x, 1 z, 2 q\nv: 0 u\nn: 1 y\ns: 0 p, 0 t\n", {49, 60}: "a: 0 x\nv: 0 u\nn: nothing\ns: 0 p, 0 t\n",
	} {
		s, e := office.Map(base(), graves(), at)
		check(t, "Map", s, e, want)
	}
	b := base()
	b.Yard.Sites = []api.Site{b.Yard.Sites[2], b.Yard.Sites[0]}
	s, e := office.Map(b, graves(), [2]int{60, 60})
	check(t, "Map of two sites", s, e, "n: 1 y\na: 0 x, 1 z, 2 q\n")
	s, e = office.Map(api.Base{}, graves(), [2]int{60, 60})
	check(t, "Map of no sites", s, e, "")
}

// P10.6: a line for each account that is used by the day, by names.
func TestLedger(t *testing.T) {
	l := []api.Entry{entry("b", 1, 9, 3, "money 3 500 fees bank"), entry("a", 1, 9, 5, "money 5 200 bank cash"), entry("a", 2, 10, 5, "money 5 200 cash Till"), entry("a", 3, 10, 4, "money 4 0 gold tin")}
	for at, want := range map[[2]int]string{
		{8, 9}: "", {9, 2}: "", {9, 3}: "bank: -500\nfees: 500\n", {9, 4}: "bank: -500\nfees: 500\n", {9, 5}: "bank: -300\ncash: -200\nfees: 500\n", {200000, 200000}: "Till: -200\nbank: -300\ncash: 0\nfees: 500\n",
		{10, 4}: "bank: -500\nfees: 500\n",
	} {
		s, e := office.Ledger(base(), l, at)
		check(t, "Ledger", s, e, want)
	}
}
