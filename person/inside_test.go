package person

import (
	"slices"
	"testing"

	"mortsafe/api"
)

// Loops over letters and decisions may be left early.
func TestLoopsAreLeft(t *testing.T) {
	for letter := range anyLetter.letters {
		if letter != '-' {
			t.Fatal(letter)
		}
		break
	}
	l := []api.Decision{{A: 0, B: 1}, {Kind: api.DecideDifferent, A: 0, B: 1}, {A: 1, B: 2}, {Kind: api.DecideDifferent, A: 2, B: 0}}
	b, e := read(3, l)
	if e != api.OK {
		t.Fatal(e)
	}
	for number := range b.conflicts {
		if number != 1 {
			t.Fatal(number)
		}
		break
	}
	for number := range b.standing(api.DecideSame) {
		if number != 0 {
			t.Fatal(number)
		}
		break
	}
	if got := slices.Collect(b.standing(api.DecideSame)); !slices.Equal(got, []int{0, 2}) {
		t.Fatal(got)
	}
}
