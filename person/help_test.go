package person_test

import (
	"math"
	"reflect"
	"slices"

	"mortsafe/api"
)

// alphabet is all letters of names, in their order.
const alphabet = "-ABCDEFGHIJKLMNOPQRSTUVWXYZabcdefghijklmnopqrstuvwxyz"

// extremes are numbers that no function may stumble over.
var extremes = []int{math.MinInt, math.MinInt + 1, -1, math.MaxInt - 1, math.MaxInt}

// entry is an entry of a register.
func entry(name string, bornFrom, bornTo, diedFrom, diedTo int) api.Note {
	born, died := api.Span{From: bornFrom, To: bornTo}, api.Span{From: diedFrom, To: diedTo}
	return api.Note{Name: name, Born: born, Died: died}
}

// named is an entry about which the name alone matters.
func named(name string) api.Note { return entry(name, 0, 0, 0, 0) }

func same(a, b int) api.Decision { return api.Decision{Kind: api.DecideSame, A: a, B: b} }

func different(a, b int) api.Decision { return api.Decision{Kind: api.DecideDifferent, A: a, B: b} }

func withdraw(a int) api.Decision { return api.Decision{Kind: api.DecideWithdraw, A: a} }

func decisions(l ...api.Decision) []api.Decision { return l }

func notes(l ...api.Note) []api.Note { return l }

// three is the entries of the shared example of personae, of which the third one suits
// neither of the others.
func three() []api.Note {
	return notes(
		entry("M[ae]ier", 0, 100, 500, 600),
		entry("Me[iy]er", 50, 200, 0, 550),
		entry("Maier", 0, 1, 2, 3),
	)
}

// triangle is the decisions of the chapter's example 5, on 4 entries.
func triangle() []api.Decision {
	return decisions(same(0, 1), same(1, 2), different(0, 2))
}

// rows and columns are two lists with the scores of the chapter's example 4.
func rows() []api.Note {
	return notes(entry("Maier", 0, 1000, 10100, 11000), entry("Maier", 0, 1000, 11825, 11825))
}

func columns() []api.Note {
	return notes(entry("Maier", 0, 1000, 10000, 10000), entry("Mayr", 0, 1000, 10500, 11700))
}

// equal compares two lists, of which nil and empty ones are the same.
func equal[T any](a, b []T) bool {
	return len(a) == 0 && len(b) == 0 || reflect.DeepEqual(a, b)
}

// equalLists compares two lists of lists.
func equalLists(a, b [][]int) bool {
	return slices.EqualFunc(a, b, func(x, y []int) bool { return slices.Equal(x, y) })
}

// with returns a list with something else behind it, in memory of its own.
func with[T any](l []T, further ...T) []T { return slices.Concat(l, further) }

func repeat[T any](n int, what func(i int) T) []T {
	var l []T
	for i := range n {
		l = append(l, what(i))
	}
	return l
}

// always returns a function that returns one thing.
func always[T any](x T) func(int) T { return func(int) T { return x } }
