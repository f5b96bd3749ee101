package ground_test

import (
	"math/rand"
	"slices"
	"testing"

	"mortsafe/api"
	"mortsafe/ground"
)

// lines makes lines of old and new numbers, one after the other.
func lines(names ...string) []api.Renumber {
	var l []api.Renumber
	for i := 0; i < len(names); i += 2 {
		l = append(l, api.Renumber{Old: names[i], New: names[i+1]})
	}
	return l
}

// exampleLines is the concordance of the chapter's third example.
func exampleLines() []api.Renumber {
	return lines("o1", "a", "o1", "b", "o2", "b", "o3", "c")
}

// manyLines has n lines of different old numbers, each one with the new one x.
func manyLines(n int) []api.Renumber {
	var l []api.Renumber
	for i := range n {
		l = append(l, api.Renumber{Old: name(i), New: "x"})
	}
	return l
}

func mustTurn(t *testing.T, l []api.Renumber) []api.Renumber {
	t.Helper()
	turned, e := ground.Turn(l)
	if e != api.OK {
		t.Fatal(l, e)
	}
	return turned
}

// anyLines makes a concordance with a few names.
func anyLines(r *rand.Rand) []api.Renumber {
	var l []api.Renumber
	for i := range 49 {
		if r.Intn(8) == 0 {
			l = append(l, api.Renumber{Old: name(i / 7), New: name(i % 7)})
		}
	}
	return l
}

// P1.6: each error of CheckNumbers, and that an earlier one goes before later ones.
func TestCheckNumbers(t *testing.T) {
	for _, c := range []struct {
		what string
		l    []api.Renumber
		want api.Errno
	}{
		{"the example", exampleLines(), api.OK},
		{"none", nil, api.OK},
		{"one name both ways", lines("a", "a"), api.OK},
		{"bytes decide", lines("A", "b", "a", "B", "a", "a", "a-", "b", "a0", "b", "aa", "a"), api.OK},
		{"200 lines", manyLines(200), api.OK},
		{"201 lines", manyLines(201), api.ErrLarge},
		{"201 lines without names", make([]api.Renumber, 201), api.ErrLarge},
		{"no old name", lines("", "a"), api.ErrName},
		{"no new name", lines("a", "1"), api.ErrName},
		{"13 letters", lines("abcdefghijklm", "a"), api.ErrName},
		{"a line twice", lines("a", "b", "a", "b"), api.ErrOrder},
		{"old ones descend", lines("b", "a", "a", "b"), api.ErrOrder},
		{"new ones descend", lines("a", "b", "a", "a"), api.ErrOrder},
		{"no name, descending", lines("a", "b", "", "a"), api.ErrName},
		{"no new name, descending", lines("b", "b", "a", "-"), api.ErrName},
		{"the first one decides", lines("b", "b", "a", "b", "", ""), api.ErrOrder},
	} {
		e := ground.CheckNumbers(c.l)
		if e != c.want {
			t.Error(c.what, e, "not", c.want)
		}
		if e == api.OK {
			continue
		}
		if l, e := ground.Compose(c.l, lines("", "")); len(l) > 0 || e != c.want {
			t.Error("Compose, first:", c.what, l, e)
		}
		if l, e := ground.Compose(exampleLines(), c.l); len(l) > 0 || e != c.want {
			t.Error("Compose, second:", c.what, l, e)
		}
		if l, e := ground.Turn(c.l); len(l) > 0 || e != c.want {
			t.Error("Turn", c.what, l, e)
		}
		if l, e := ground.Images(c.l, make([]string, 201)); len(l) > 0 || e != c.want {
			t.Error("Images", c.what, l, e)
		}
		if l, e := ground.Parts(c.l); len(l) > 0 || e != c.want {
			t.Error("Parts", c.what, l, e)
		}
	}
}

// P1.6: Compose, with the example; each line comes once.
func TestCompose(t *testing.T) {
	for _, c := range []struct {
		what       string
		a, b, want []api.Renumber
		err        api.Errno
	}{
		{"the example", exampleLines(), lines("a", "x", "b", "y", "c", "z"), lines("o1", "x", "o1", "y", "o2", "y", "o3", "z"), api.OK},
		{"nothing first", nil, exampleLines(), nil, api.OK},
		{"nothing second", exampleLines(), nil, nil, api.OK},
		{"nothing in common", exampleLines(), exampleLines(), nil, api.OK},
		{"two ways to one line", lines("o", "a", "o", "b"), lines("a", "x", "b", "x"), lines("o", "x"), api.OK},
		{"new ones against the order", lines("o", "a", "o", "b"), lines("a", "z", "b", "y"), lines("o", "y", "o", "z"), api.OK},
		{"one name everywhere", lines("a", "a"), lines("a", "a"), lines("a", "a"), api.OK},
		{"200 lines", manyLines(200), lines("x", "x"), manyLines(200), api.OK},
		{"200 lines by two ways each", twice(100), lines("x", "a", "x", "b", "y", "a", "y", "b"), pairs(100, "a", "b"), api.OK},
		{"202 lines", manyLines(101), lines("x", "a", "x", "b"), nil, api.ErrLarge},
		{"40000 lines", manyLines(200), mustTurn(t, manyLines(200)), nil, api.ErrLarge},
	} {
		if l, e := ground.Compose(c.a, c.b); !slices.Equal(l, c.want) || e != c.err {
			t.Error(c.what, l, e)
		}
	}
}

// pairs has two lines for each of n old numbers.
func pairs(n int, a, b string) []api.Renumber {
	var l []api.Renumber
	for i := range n {
		l = append(l, lines(name(i), a, name(i), b)...)
	}
	return l
}

func twice(n int) []api.Renumber { return pairs(n, "x", "y") }

// P1.6: Turn sorts the lines anew.
func TestTurn(t *testing.T) {
	if l := mustTurn(t, exampleLines()); !slices.Equal(l, lines("a", "o1", "b", "o1", "b", "o2", "c", "o3")) {
		t.Error(l)
	}
	if l := mustTurn(t, lines("a", "z", "b", "y", "c", "x")); !slices.Equal(l, lines("x", "c", "y", "b", "z", "a")) {
		t.Error(l)
	}
	if l := mustTurn(t, nil); len(l) > 0 {
		t.Error(l)
	}
}

// P1.6: Images, and its errors in their order.
func TestImages(t *testing.T) {
	for _, c := range []struct {
		what  string
		names []string
		want  []string
		err   api.Errno
	}{
		{"a split", []string{"o1"}, []string{"a", "b"}, api.OK},
		{"one in common", []string{"o2", "o1"}, []string{"a", "b"}, api.OK},
		{"against the order", []string{"o3", "o1"}, []string{"a", "b", "c"}, api.OK},
		{"a name twice", []string{"o3", "o3"}, []string{"c"}, api.OK},
		{"none", nil, nil, api.OK},
		{"200 names", slices.Repeat([]string{"o2"}, 200), []string{"b"}, api.OK},
		{"201 names", make([]string, 201), nil, api.ErrLarge},
		{"no name", []string{"o1", ""}, nil, api.ErrName},
		{"a missing one", []string{"o1", "o4"}, nil, api.ErrMissing},
		{"a new number", []string{"a"}, nil, api.ErrMissing},
		{"missing, then no name", []string{"o4", ""}, nil, api.ErrMissing},
		{"no name, then missing", []string{"o 4", "o4"}, nil, api.ErrName},
	} {
		if l, e := ground.Images(exampleLines(), c.names); !slices.Equal(l, c.want) || e != c.err {
			t.Error(c.what, l, e)
		}
	}
}

func sameParts(a, b []api.Renumbering) bool {
	return slices.EqualFunc(a, b, func(p, q api.Renumbering) bool {
		return slices.Equal(p.Old, q.Old) && slices.Equal(p.New, q.New)
	})
}

func part(old []string, new ...string) api.Renumbering {
	return api.Renumbering{Old: old, New: new}
}

// P1.6: Parts, with the example; old and new numbers of one name are two things.
func TestParts(t *testing.T) {
	for _, c := range []struct {
		what string
		l    []api.Renumber
		want []api.Renumbering
	}{
		{"the example", exampleLines(), []api.Renumbering{part([]string{"o1", "o2"}, "a", "b"), part([]string{"o3"}, "c")}},
		{"none", nil, nil},
		{"one name both ways", lines("a", "b", "b", "c"), []api.Renumbering{part([]string{"a"}, "b"), part([]string{"b"}, "c")}},
		{"interlaced", lines("a", "y", "b", "x", "c", "y", "d", "x"), []api.Renumbering{part([]string{"a", "c"}, "y"), part([]string{"b", "d"}, "x")}},
		{"joined late", lines("a", "x", "b", "y", "c", "x", "c", "y", "d", "w"), []api.Renumbering{part([]string{"a", "b", "c"}, "x", "y"), part([]string{"d"}, "w")}},
		{"a chain backwards", lines("a", "p", "b", "q", "c", "q", "c", "r", "d", "p", "d", "r"), []api.Renumbering{part([]string{"a", "b", "c", "d"}, "p", "q", "r")}},
		{"new ones descend", lines("a", "z", "b", "y", "b", "z"), []api.Renumbering{part([]string{"a", "b"}, "y", "z")}},
	} {
		if l, e := ground.Parts(c.l); !sameParts(l, c.want) || e != api.OK {
			t.Error(c.what, l, e)
		}
	}
	if l, e := ground.Parts(manyLines(200)); e != api.OK || len(l) != 1 || len(l[0].Old) != 200 || !slices.Equal(l[0].New, []string{"x"}) {
		t.Error(l, e)
	}
	if l, e := ground.Parts(mustTurn(t, manyLines(200))); e != api.OK || len(l) != 1 || len(l[0].New) != 200 {
		t.Error(l, e)
	}
}

// P1.6: KindOf, and its errors in their order.
func TestKindOf(t *testing.T) {
	var many []string
	for i := range 200 {
		many = append(many, name(i))
	}
	for _, c := range []struct {
		what string
		r    api.Renumbering
		want int
		err  api.Errno
	}{
		{"one of both", part([]string{"o3"}, "c"), 0, api.OK},
		{"a split", part([]string{"o1"}, "a", "b"), 1, api.OK},
		{"joined", part([]string{"o1", "o2"}, "b"), 2, api.OK},
		{"the example", part([]string{"o1", "o2"}, "a", "b"), 3, api.OK},
		{"one name both ways", part([]string{"a"}, "a"), 0, api.OK},
		{"200 of both", part(many, many...), 3, api.OK},
		{"nothing", api.Renumbering{}, 0, api.ErrShape},
		{"no old one", part(nil, "", ""), 0, api.ErrShape},
		{"no new one", part([]string{"", ""}), 0, api.ErrShape},
		{"201 old ones", part(make([]string, 201), "a"), 0, api.ErrShape},
		{"201 new ones", part([]string{"b", "a"}, make([]string, 201)...), 0, api.ErrShape},
		{"no old name", part([]string{"b", "a", ""}, "a"), 0, api.ErrName},
		{"no new name", part([]string{"b", "a"}, "a-", "1"), 0, api.ErrName},
		{"old ones descend", part([]string{"b", "a"}, "a"), 0, api.ErrOrder},
		{"new ones descend", part([]string{"a"}, "b", "a"), 0, api.ErrOrder},
		{"an old one twice", part([]string{"a", "a"}, "a"), 0, api.ErrOrder},
		{"a new one twice", part([]string{"a"}, "a", "b", "b"), 0, api.ErrOrder},
	} {
		if k, e := ground.KindOf(c.r); k != c.want || e != c.err {
			t.Error(c.what, k, e)
		}
	}
}

// P1.10: Turn undoes itself; Compose is associative, and turned round it is the
// composition the other way round.
func TestComposeAndTurn(t *testing.T) {
	r := rand.New(rand.NewSource(41))
	compose := func(a, b []api.Renumber) []api.Renumber {
		l, e := ground.Compose(a, b)
		if f := ground.CheckNumbers(l); e != api.OK || f != api.OK {
			t.Fatal(a, b, l, e, f)
		}
		return l
	}
	for range 300 {
		a, b, c := anyLines(r), anyLines(r), anyLines(r)
		if l := mustTurn(t, mustTurn(t, a)); !slices.Equal(l, a) {
			t.Fatal(a, l)
		}
		if x, y := compose(compose(a, b), c), compose(a, compose(b, c)); !slices.Equal(x, y) {
			t.Fatal(a, b, c, x, y)
		}
		if x, y := mustTurn(t, compose(a, b)), compose(mustTurn(t, b), mustTurn(t, a)); !slices.Equal(x, y) {
			t.Fatal(a, b, x, y)
		}
	}
}

// P1.10: every line is in one part; and P1.6: the parts are as few lines as hang
// together, in their order.
func TestEveryLineIsInOnePart(t *testing.T) {
	r := rand.New(rand.NewSource(42))
	for range 300 {
		l := anyLines(r)
		parts, e := ground.Parts(l)
		if e != api.OK {
			t.Fatal(l, e)
		}
		old, new := map[string]int{}, map[string]int{}
		for i, p := range parts {
			if _, e := ground.KindOf(p); e != api.OK || i > 0 && parts[i-1].Old[0] >= p.Old[0] {
				t.Fatal(l, parts, e)
			}
			for _, s := range p.Old {
				old[s] += i + 1
			}
			for _, s := range p.New {
				new[s] += i + 1
			}
			if n := reach(l, p.Old[0]); n != len(p.Old)+len(p.New) {
				t.Fatal(l, p, n)
			}
		}
		for _, x := range l {
			if old[x.Old] != new[x.New] || old[x.Old] < 1 || old[x.Old] > len(parts) {
				t.Fatal(l, parts, x)
			}
		}
	}
}

// reach counts the numbers that hang together with an old one.
func reach(l []api.Renumber, first string) int {
	old, new := map[string]bool{first: true}, map[string]bool{}
	for range 2 * len(l) {
		for _, x := range l {
			if old[x.Old] || new[x.New] {
				old[x.Old], new[x.New] = true, true
			}
		}
	}
	return len(old) + len(new)
}
