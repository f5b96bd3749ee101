package grave_test

import (
	"math/rand"
	"reflect"
	"slices"
	"strings"
	"testing"

	"mortsafe/api"
	"mortsafe/grave"
)

// yardText is the text of the examples' yard, twoText that of the events of example 2.
const (
	yardText = "site a 0 1 240 80 3\nsite v 1 0 0 0 2\nsite n 2 0 0 0 2\nsite s 3 0 0 0 1\nrest 1 0 7300\nrest 1 1 3650\ncovers 150 60 0\n"
	twoText  = "bury 100 a 0 x 0\nbury 200 a 1 y 0\n"
)

// P3.8: the text of an event, which ParseEvent reads.
func TestEventTexts(t *testing.T) {
	for _, c := range []struct {
		e    api.Event
		text string
	}{
		{bury(100, "a", 0, "x", api.Coffin), "bury 100 a 0 x 0"},
		{bury(api.MaxDay, "bury", 11, "bury", api.Ashes), "bury 200000 bury 11 bury 2"},
		{rebury(0, "A-9", 10, "order", api.Urn), "rebury 0 A-9 10 order 1"},
		{rebury(7, "order", 0, "abcdefghijkl", api.Coffin), "rebury 7 order 0 abcdefghijkl 0"},
		{exhume(300, "y"), "exhume 300 y"},
		{byOrder(exhume(300, "y")), "exhume 300 y order"},
		{exhume(300, "order"), "exhume 300 order"},
		{byOrder(exhume(300, "order")), "exhume 300 order order"},
		{lower(400, 2, "order"), "lower 400 2 order"},
		{lower(400, 11, "x"), "lower 400 11 x"},
		{byOrder(lower(400, 0, "x")), "lower 400 0 x order"},
		{byOrder(lower(400, 0, "order")), "lower 400 0 order order"},
		{gather(7500, "x"), "gather 7500 x"},
		{gather(7500, "order"), "gather 7500 order"},
	} {
		if s, e := grave.FormatEvent(c.e); s != c.text || e != api.OK {
			t.Errorf("%v: %q %d", c.e, s, e)
		}
		if v, e := grave.ParseEvent(c.text); v != c.e || e != api.OK {
			t.Errorf("%q: %v %d", c.text, v, e)
		}
	}
}

// P3.8: a wrong event has no text.
func TestFormatWrongEvent(t *testing.T) {
	for _, c := range []struct {
		e    api.Event
		want api.Errno
	}{
		{gather(-1, ""), api.ErrRange},
		{api.Event{Kind: 5}, api.ErrKind},
		{api.Event{Kind: -1, Remain: "x"}, api.ErrKind},
		{api.Event{}, api.ErrName},
		{bury(5, "a b", 0, "x", 0), api.ErrName},
		{lower(5, 12, "x"), api.ErrRange},
		{byOrder(gather(5, "x")), api.ErrForm},
	} {
		if s, e := grave.FormatEvent(c.e); s != "" || e != c.want {
			t.Errorf("%v: %q %d", c.e, s, e)
		}
	}
}

// P3.8: texts that FormatEvent does not write.
func TestParseNoEvent(t *testing.T) {
	for _, s := range []string{
		"", " ", "\n", "bury", "bury ", "exhume", "gather", "q 5 x", "Bury 100 a 0 x 0", "bury100 a 0 x 0",
		"bury 100 a 0 x", "bury 100 a 0 x ", "bury 100 a 0 x 0 ", " bury 100 a 0 x 0", "bury 100 a 0 x 0 0", "bury 100 a 0 x 0\n",
		"bury  100 a 0 x 0", "bury 100  0 x 0", "bury 100 a  x 0", "bury 100 a 0  0", "bury 100 a 0 x  0", "bury\t100 a 0 x 0",
		"bury 100 a 0 x 0 order", "rebury 100 a 0 x 0 order", "gather 100 x order", "exhume 100 x Order", "exhume 100 x order ",
		"exhume 100 x  order", "exhume 100 x orde", "exhume 100 x order order", "exhume 100 x 0", "exhume 100 a 0 x 0", "lower 100 0 x ordered",
		"lower 100 x", "lower 100 x order", "lower 100 a 0 x", "gather 100", "gather x 100", "exhume 100 ", "gather 100 x ", "lower 100 0 ",
		"bury 0100 a 0 x 0", "bury +100 a 0 x 0", "bury -1 a 0 x 0", "bury -0 a 0 x 0", "bury 200001 a 0 x 0", "bury 1_0 a 0 x 0",
		"bury 0x1 a 0 x 0", "bury 1e2 a 0 x 0", "bury 10000000 a 0 x 0", "bury 99999999999999999999 a 0 x 0", "bury one a 0 x 0", "bury  a 0 x 0",
		"bury 100 a 00 x 0", "bury 100 a 12 x 0", "bury 100 a -1 x 0", "bury 100 a +1 x 0", "bury 100 a 0 x 3", "bury 100 a 0 x -1", "bury 100 a 0 x 00",
		"lower 100 12 x", "lower 100 01 x", "lower 100 -1 x", "exhume 100 9", "exhume 100 abcdefghijklm", "exhume 100 x_y", "gather 100 \u00e4",
		"bury 100 9 0 x 0", "bury 100 abcdefghijklm 0 x 0", "bury 100 a 0 9 0", "bury \u0661 a 0 x 0", "0 100 x", "-1 100 x", strings.Repeat(" ", 1000),
	} {
		if v, e := grave.ParseEvent(s); v != (api.Event{}) || e != api.ErrSyntax {
			t.Errorf("%q: %v %d", s, v, e)
		}
	}
}

// P3.8: what ParseEvent reads is written back as it was, also of texts near to right ones.
func TestParseEventIsStrict(t *testing.T) {
	r := rand.New(rand.NewSource(38))
	words := []string{"bury", "rebury", "exhume", "lower", "gather", "order", "0", "1", "11", "12", "100", "a", "x", "9", "", "-1", "01"}
	right := 0
	for range 200000 {
		var some []string
		for range 3 + r.Intn(4) {
			some = append(some, words[r.Intn(len(words))])
		}
		s := strings.Join(some, " ")
		v, e := grave.ParseEvent(s)
		if e != api.OK {
			if v != (api.Event{}) || e != api.ErrSyntax || isEventText(some) {
				t.Fatalf("%q: %v %d", s, v, e)
			}
			continue
		}
		right++
		if text, e := grave.FormatEvent(v); text != s || e != api.OK || !isEventText(some) {
			t.Fatalf("%q: %v %q %d", s, v, text, e)
		}
	}
	if right < 100 {
		t.Error("few texts are right:", right)
	}
}

// isEventText tells by patterns of words whether they are an event; it knows only
// the words of TestParseEventIsStrict.
func isEventText(words []string) bool {
	class := map[string]string{"0": "dlc", "1": "dlc", "11": "dl", "12": "d", "100": "d", "9": "dl", "": "", "-1": "", "01": ""}
	is := func(pattern string) bool {
		if len(words)-1 != len(pattern) {
			return false
		}
		for i, p := range pattern {
			classes, known := class[words[i+1]]
			switch {
			case p == 'o' && words[i+1] != "order", p == 'n' && known, p != 'o' && p != 'n' && !strings.ContainsRune(classes, p):
				return false
			}
		}
		return true
	}
	switch words[0] {
	case "bury", "rebury":
		return is("dnlnc")
	case "exhume":
		return is("dn") || is("dno")
	case "lower":
		return is("dln") || is("dlno")
	case "gather":
		return is("dn")
	}
	return false
}

// P3.8: Print, with its errors; Parse undoes it (P3.9).
func TestPrint(t *testing.T) {
	for _, c := range []struct {
		y    api.Yard
		l    []api.Event
		want string
	}{
		{api.Yard{}, nil, "covers 0 0 0\n"},
		{yard(), nil, yardText},
		{yard(), two(), yardText + twoText},
		{yard(), many(), yardText + "bury 100 a 0 x 0\nbury 200 a 1 y 0\nbury 200 v 1 w 1\nbury 200 s 0 t 2\nexhume 300 y order\nrebury 300 n 0 y 1\nexhume 300 w\n" +
			"bury 400 a 2 u 1\nbury 450 s 0 b 2\nexhume 500 y\nrebury 600 s 0 y 2\nlower 700 1 u order\ngather 4350 u\ngather 7400 x\n"},
		{api.Yard{Rests: []api.Rest{{Soil: 9, Container: 2, Days: 100000}}, Covers: [3]int{1000, 1, 2}}, nil, "rest 9 2 100000\ncovers 1000 1 2\n"},
	} {
		if s, e := grave.Print(c.y, c.l); s != c.want || e != api.OK {
			t.Errorf("%q %d", s, e)
		}
		checkParse(t, "printed", c.want, c.y, c.l, 0, api.OK)
	}
}

func checkParse(t *testing.T, what, text string, y api.Yard, l []api.Event, line int, want api.Errno) {
	t.Helper()
	z, m, n, e := grave.Parse(text)
	if !same(z.Sites, y.Sites) || !same(z.Rests, y.Rests) || z.Covers != y.Covers || !same(m, l) || n != line || e != want {
		t.Errorf("%s: %v %v, line %d, error %d", what, z, m, n, e)
	}
	if e != api.OK && (!reflect.ValueOf(z).IsZero() || m != nil) {
		t.Errorf("%s: %v %v beside an error", what, z, m)
	}
}

// P3.8: the number of the first line that is wrong.
func TestParseWrongLines(t *testing.T) {
	for _, c := range []struct {
		what, text string
		line       int
	}{
		{"nothing", "", 1},
		{"an empty line", "\n", 1},
		{"no covers behind a site", "site a 0 1 240 80 3\n", 2},
		{"no covers behind all", strings.TrimSuffix(yardText, "covers 150 60 0\n"), 7},
		{"no covers before an event", "site a 0 1 240 80 3\nbury 100 a 0 x 0\n", 2},
		{"an event alone", twoText, 1},
		{"no line feed", "covers 1 2 3", 1},
		{"no line feed of the last event", yardText + "bury 100 a 0 x 0", 8},
		{"no line feed of a site", "site a 0 1 240 80 3", 1},
		{"an empty line ahead", "\n" + yardText, 1},
		{"an empty line behind", yardText + "\n", 8},
		{"an empty line between", yardText + "bury 100 a 0 x 0\n\n", 9},
		{"a carriage return", "covers 1 2 3\r\n", 1},
		{"a rest before a site", "rest 1 0 5\nsite a 0 1 240 80 3\ncovers 1 2 3\n", 2},
		{"covers before a site", "covers 1 2 3\nsite a 0 1 240 80 3\n", 2},
		{"covers before a rest", "covers 1 2 3\nrest 1 0 5\n", 2},
		{"covers twice", "covers 1 2 3\ncovers 1 2 3\n", 2},
		{"a site behind events", yardText + twoText + "site b 0 1 240 80 3\n", 10},
		{"another word", "sites a 0 1 240 80 3\n" + yardText, 1},
		{"another case", "Site a 0 1 240 80 3\n" + yardText, 1},
		{"the word alone", "site\n" + yardText, 1},
		{"a site of six words", "site a 0 1 240 80\n" + yardText, 1},
		{"a site of eight words", "site a 0 1 240 80 3 0\n" + yardText, 1},
		{"a site without a name", "site 0 1 240 80 3\n" + yardText, 1},
		{"a blank behind", "site a 0 1 240 80 3 \n" + yardText, 1},
		{"a blank ahead", " site a 0 1 240 80 3\n" + yardText, 1},
		{"two blanks", "site a 0  1 240 80 3\n" + yardText, 1},
		{"a tab", "site a 0 1\t240 80 3\n" + yardText, 1},
		{"a zero ahead", "site a 0 01 240 80 3\n" + yardText, 1},
		{"a plus sign", "site a 0 +1 240 80 3\n" + yardText, 1},
		{"-0", "site a 0 -0 240 80 3\n" + yardText, 1},
		{"no number", "site a 0 x 240 80 3\n" + yardText, 1},
		{"8 digits", "site a 0 10000000 240 80 3\n" + yardText, 1},
		{"8 digits below 0", "site a 0 -10000000 240 80 3\n" + yardText, 1},
		{"many digits", "site a 0 1 240 80 99999999999999999999\n" + yardText, 1},
		{"a sign alone", "rest 1 - 5\ncovers 1 2 3\n", 1},
		{"a rest of three words", "rest 1 0\ncovers 1 2 3\n", 1},
		{"a rest of five words", "rest 1 0 5 6\ncovers 1 2 3\n", 1},
		{"a rest alone", "rest\ncovers 1 2 3\n", 1},
		{"a wrong number of a rest", "rest 1 0 05\ncovers 1 2 3\n", 1},
		{"covers of two numbers", "covers 1 2\n", 1},
		{"covers of four numbers", "covers 1 2 3 4\n", 1},
		{"covers alone", "covers\n", 1},
		{"a wrong number of covers", "covers 1 2 -0\n", 1},
		{"wrong covers, then right ones", "covers 1 2\ncovers 1 2 3\n", 1},
		{"an event of a wrong range", yardText + "bury 100 a 12 x 0\n", 8},
		{"an event of a wrong name", yardText + "bury 100 a 0 x 0\nbury 100 a 0 9 0\n", 9},
		{"an event of no kind", yardText + "burn 100 a 0 x 0\n", 8},
		{"two wrong lines", yardText + "q\nr\n", 8},
		{"a wrong line behind a wrong yard", "site 9 0 0 0 0 0\ncovers 1 2 3\nq\n", 3},
		{"a wrong line behind a wrong event", yardText + "exhume 5 q\nq\n", 9},
	} {
		checkParse(t, c.what, c.text, api.Yard{}, nil, c.line, api.ErrSyntax)
	}
}

// P3.8: the errors of a text whose lines are right: those of the yard, then those of
// the events.
func TestParseErrors(t *testing.T) {
	site := "site a 0 1 240 80 3\n"
	covers := "covers 150 60 0\n"
	for _, c := range []struct {
		what, text string
		want       api.Errno
	}{
		{"an empty name", "site  0 1 240 80 3\n" + covers, api.ErrName},
		{"a wrong name", "site 9 0 1 240 80 3\n" + covers, api.ErrName},
		{"a strange name", "site \t\u00e4 0 1 240 80 3\n" + covers, api.ErrName},
		{"a wrong kind", "site a 4 1 240 80 3\n" + covers, api.ErrKind},
		{"a number of 7 digits", "site a 0 1 9999999 80 3\n" + covers, api.ErrRange},
		{"a number of 7 digits below 0", "site a 0 1 240 -9999999 3\n" + covers, api.ErrRange},
		{"a wrong form", "site a 1 1 240 80 3\n" + covers, api.ErrForm},
		{"a name twice", site + site + covers, api.ErrExists},
		{"a rest twice", "rest 1 0 5\nrest 1 0 6\n" + covers, api.ErrExists},
		{"a wrong rest", "rest 1 0 100001\n" + covers, api.ErrRange},
		{"wrong covers", "covers 1 2 1001\n", api.ErrRange},
		{"61 sites", strings.Repeat(site, 61) + covers, api.ErrLarge},
		{"41 rests", strings.Repeat("rest 1 0 5\n", 41) + covers, api.ErrLarge},
		{"a wrong yard before wrong events", "site 9 0 1 240 80 3\n" + covers + "exhume 5 q\n", api.ErrName},
		{"a wrong event", site + covers + twoText + "exhume 300 x\n", api.ErrBusy},
		{"the first of two", site + covers + twoText + "exhume 300 x\nexhume 300 q\n", api.ErrBusy},
		{"a wrong order", site + covers + twoText + "exhume 199 x\n", api.ErrOrder},
		{"a missing site", site + covers + "bury 5 b 0 x 0\n", api.ErrMissing},
		{"301 events", site + covers + strings.Repeat("exhume 5 q\n", 301), api.ErrLarge},
		{"300 events", site + covers + strings.Repeat("exhume 5 q\n", 300), api.ErrMissing},
	} {
		checkParse(t, c.what, c.text, api.Yard{}, nil, 0, c.want)
	}
}

// P3.8: a text has at most 60000 bytes.
func TestParseLongest(t *testing.T) {
	long := "site " + strings.Repeat("a", 60000-len("site  0 0 0 0 1\ncovers 0 0 0\n")) + " 0 0 0 0 1\ncovers 0 0 0\n"
	checkParse(t, "60000 bytes", long, api.Yard{}, nil, 0, api.ErrName)
	checkParse(t, "60001 bytes", "s"+long, api.Yard{}, nil, 0, api.ErrLarge)
	checkParse(t, "60000 blanks", strings.Repeat(" ", 60000), api.Yard{}, nil, 1, api.ErrSyntax)
	checkParse(t, "60001 blanks", strings.Repeat(" ", 60001), api.Yard{}, nil, 0, api.ErrLarge)
	checkParse(t, "60000 lines", strings.Repeat("\n", 60000), api.Yard{}, nil, 1, api.ErrSyntax)
}

// P3.9: Parse undoes Print, also for the largest texts.
func TestParsePrinted(t *testing.T) {
	y := api.Yard{Sites: sites(60), Rests: rests(30), Covers: [3]int{1000, 1000, 1000}}
	y.Sites[7] = api.Site{Name: "abcdefghijkl", Kind: api.SiteScatter, Soil: 9, Room: 1}
	l := repeat(300, func(i int) api.Event {
		return bury(api.MaxDay-299+i, "abcdefghijkl", 0, "abcdefghi"+string([]byte{'0' + byte(i/100), '0' + byte(i/10%10), '0' + byte(i%10)}), api.Ashes)
	})
	s, e := grave.Print(y, l)
	if e != api.OK || strings.Count(s, "\n") != 391 {
		t.Fatal(s, e)
	}
	checkParse(t, "the most", s, y, l, 0, api.OK)
	lines := strings.SplitAfter(s, "\n")
	for i := range len(lines) - 1 {
		cut := strings.Join(slices.Delete(slices.Clone(lines), i, i+1), "")
		if _, _, n, e := grave.Parse(cut); (i == 90) != (e == api.ErrSyntax && n == 91) {
			t.Errorf("without line %d: %d %d", i+1, n, e)
		}
	}
}
