package rule_test

import (
	"reflect"
	"slices"
	"testing"

	"mortsafe/api"
	"mortsafe/rule"
)

func calendar() []api.Holiday {
	return []api.Holiday{onDate("new", 1, 1), onWeekday("may", 5, -1, 0), byEaster("friday", -2)}
}

// room gives a list room behind its end, in which a careless append would write.
func room[T any](l []T) []T { return slices.Grow(l, 5) }

// R3 (P1): no function writes into its arguments, or behind them.
func TestArgumentsStay(t *testing.T) {
	holidays, l := room(calendar()), room(fees())
	l[:5][4] = sets("behind", 1, 2, 3)
	at := [2]int{25, 26}
	rule.CheckHolidays(holidays)
	rule.HolidaysOf(holidays, 1800)
	rule.IsWorking(holidays, 5)
	rule.AddWorking(holidays, 5, 5)
	rule.WorkingBetween(holidays, 5, 9)
	rule.Deadline(holidays, 5, api.Period{Days: 5})
	rule.CheckProvisions(l)
	rule.Next(l, sets("a", 1, 2, 30))
	rule.Source(l, "fee", at)
	rule.Value(l, "fee", at)
	rule.Names(l, at)
	rule.Changes(l, "fee", 30)
	rule.Consolidated(l, at)
	rule.Print(l)
	if !slices.Equal(holidays, calendar()) || !slices.Equal(l, fees()) || l[:5][4] != sets("behind", 1, 2, 3) {
		t.Error(holidays, l[:5])
	}
}

// R3 (P1): writing into a result changes no argument and no other result.
func TestResultsAreApart(t *testing.T) {
	l := room(fees())
	a, _ := rule.Next(l, sets("a", 1, 2, 30))
	b, _ := rule.Next(l, sets("b", 1, 2, 30))
	a[0].Name = "q"
	if l[0].Name != "fee" || b[0].Name != "fee" || a[4].Name != "a" || b[4].Name != "b" {
		t.Error(l, a, b)
	}
	days, _ := rule.HolidaysOf(calendar(), 1800)
	days[0] = 7
	names, _ := rule.Names(fees(), [2]int{25, 26})
	names[0] = "q"
	changes, _ := rule.Changes(fees(), "fee", 30)
	changes[0].Value = 7
	read, _, _ := rule.Parse(feesText)
	read[0].Name = "q"
	if everything := all(); !reflect.DeepEqual(everything, all()) || !slices.Equal(everything[0].([]int), []int{0, 100, 145}) {
		t.Error(everything)
	}
}

func all() []any {
	days, _ := rule.HolidaysOf(calendar(), 1800)
	deadline, _ := rule.Deadline(calendar(), 5, api.Period{Days: 5})
	names, _ := rule.Names(fees(), [2]int{25, 26})
	changes, _ := rule.Changes(fees(), "fee", 30)
	text, _ := rule.Consolidated(fees(), [2]int{25, 26})
	read, _, _ := rule.Parse(feesText)
	return []any{days, deadline, names, changes, text, read}
}

// R4 (P1): the same arguments give the same results, also where maps are used.
func TestResultsAreRepeated(t *testing.T) {
	var l []api.Provision
	for _, name := range []string{"z", "b", "a", "m", "B", "q", "c", "y"} {
		l = append(l, sets(name, 1, 2, 3))
	}
	want, _ := rule.Consolidated(l, [2]int{5, 5})
	first := all()
	for range 50 {
		if text, e := rule.Consolidated(l, [2]int{5, 5}); text != want || e != api.OK {
			t.Fatal(text, e)
		}
		if !reflect.DeepEqual(first, all()) {
			t.Fatal(first, all())
		}
	}
}
