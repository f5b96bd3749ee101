package office_test

import (
	"testing"

	"mortsafe/api"
	"mortsafe/office"
)

// P10.3: all entries of both lists, each one once, in canonical order: by the bytes of the
// offices, then by numbers.
func TestMerge(t *testing.T) {
	same := "person same 0 1"
	mixed := []api.Entry{
		entry("B", 1, 7, 0, same), entry("a", 1, 5, 0, same), entry("a", 2, 5, 0, same), entry("a-", 1, 5, 9, same), entry("a1", 1, 5, 0, same), entry("ab", 1, 5, 0, same), entry("b", 1, 5, 0, same),
	}
	numbers := many("a", 11)
	for i, c := range []struct{ a, b, want []api.Entry }{
		{nil, nil, nil}, {story(), nil, story()}, {nil, story(), story()}, {story(), story(), story()}, {story()[:1], story()[1:], story()}, {story()[1:], story()[:1], story()},
		{story()[:3], story()[1:], story()}, {[]api.Entry{mixed[6], mixed[3], mixed[2], mixed[1]}, []api.Entry{mixed[5], mixed[0], mixed[4], mixed[1]}, mixed},
		{[]api.Entry{numbers[1], numbers[0]}, with(numbers[5:11], numbers[4], numbers[3], numbers[0], numbers[1], numbers[2]), numbers},
		{many("a", 200), many("b", 100), with(many("a", 200), many("b", 100)...)}, {many("a", 300), many("a", 300), many("a", 300)}, {many("a", 3), many("a", 300), many("a", 300)},
	} {
		l, e := office.Merge(c.a, c.b)
		check(t, "Merge", l, e, c.want)
		if t.Failed() {
			t.Fatal(i)
		}
	}
}

// P10.3: entries with the same key that are not equal clash, whatever else is different; too many
// entries are told behind that.
func TestWrongMerges(t *testing.T) {
	for _, other := range []api.Entry{
		entry("main", 2, 206, 200, "grave bury 200 a 1 y 0"), entry("main", 2, 205, 201, "grave bury 201 a 1 y 0"), entry("main", 2, 205, 200, "grave bury 200 a 1 z 0"),
	} {
		l := []api.Entry{story()[1], other}
		for _, c := range [][2][]api.Entry{{story(), l}, {l, story()}, {with(story(), many("b", 296)...), with(l, many("c", 9)...)}} {
			got, e := office.Merge(c[0], c[1])
			checkError(t, "Merge", []any{got}, e, api.ErrClash)
		}
	}
	for _, c := range [][2][]api.Entry{{many("a", 300), many("b", 1)}, {many("a", 150), many("b", 151)}, {many("a", 1), many("b", 300)}} {
		got, e := office.Merge(c[0], c[1])
		checkError(t, "Merge of too much", []any{got}, e, api.ErrLarge)
	}
}
