package right_test

import (
	"math"
	"strconv"
	"strings"
	"testing"

	"mortsafe/api"
	"mortsafe/right"
)

// deedTexts are right deeds and their texts.
var deedTexts = []struct {
	d    api.Deed
	text string
}{
	{family(100, "a1", "ann"), "grant 100 a1 - 1 0 ann 1 1"},
	{grant(0, "P-", api.ClassTerm, 99, part("ann", 1, 3), part("bob", 2, 3)), "grant 0 P- - 2 99 ann 1 3 bob 2 3"},
	{grant(200000, "abcdefghijkl", api.ClassCommon, 0, eighths(8)...), "grant 200000 abcdefghijkl - 4 0 p0 1 8 p1 1 8 p2 1 8 p3 1 8 p4 1 8 p5 1 8 p6 1 8 p7 1 8"},
	{transfer(5, "a1", "ann", part("bob", 15, 16)), "transfer 5 a1 ann 0 0 bob 15 16"},
	{surrender(5, "a1", "ann"), "surrender 5 a1 ann 0 0"},
	{renewal(5, "a1", 10), "renewal 5 a1 - 0 10"},
	{will(5, "ann", part("bob", 1, 2), part("cat", 1, 3)), "will 5 - ann 0 0 bob 1 2 cat 1 3"},
	{renounce(5, "ann", "bob"), "renounce 5 - ann 0 0 bob 0 0"},
	{child(0, "ann", "bob"), "child 0 - ann 0 0 bob 0 0"},
	{marriage(5, "ann", "bob"), "marriage 5 - ann 0 0 bob 0 0"},
	{death(5, "ann"), "death 5 - ann 0 0"},
	{death(5, "death"), "death 5 - death 0 0"},
}

// P5.8: deeds are written as they are, and read back.
func TestTextsOfDeeds(t *testing.T) {
	for _, x := range deedTexts {
		if s := right.FormatDeed(x.d); s != x.text {
			t.Error(x.d, s)
		}
		if d, e := right.ParseDeed(x.text); !equal(d, x.d) || e != api.OK {
			t.Error(x.text, d, e)
		}
	}
}

// P5.11: each right deed is read back from its text.
func TestTextsOfRightDeeds(t *testing.T) {
	for _, d := range rightDeeds() {
		if got, e := right.ParseDeed(right.FormatDeed(d)); !equal(got, d) || e != api.OK {
			t.Error(d, got, e)
		}
	}
}

// P5.8: wrong deeds are written, too, also with kinds that have no name.
func TestFormatDeed(t *testing.T) {
	most, least := strconv.Itoa(math.MaxInt), strconv.Itoa(math.MinInt)
	tests := []struct {
		d    api.Deed
		want string
	}{
		{api.Deed{}, "grant 0 - - 0 0"},
		{api.Deed{Kind: 9}, "9 0 - - 0 0"},
		{api.Deed{Kind: -1, Day: -5, Place: "-", From: "?", Class: -7, Years: 1000}, "-1 -5 - ? -7 1000"},
		{api.Deed{Kind: math.MaxInt, Day: math.MinInt, Class: math.MaxInt, Years: math.MinInt}, most + " " + least + " - - " + most + " " + least},
		{api.Deed{Kind: math.MinInt, To: parts(part("", math.MinInt, math.MaxInt), part("a b", -1, 0))}, least + " 0 - - 0 0 - " + least + " " + most + " a b -1 0"},
		{api.Deed{Kind: 8, To: parts(api.Part{}, api.Part{})}, "death 0 - - 0 0 - 0 0 - 0 0"},
		{api.Deed{Kind: 1, Place: "a b\n", From: " ", To: repeat(9, always(part("x", 2, 4)))}, "transfer 0 a b\n   0 0" + strings.Repeat(" x 2 4", 9)},
	}
	for _, x := range tests {
		if s := right.FormatDeed(x.d); s != x.want {
			t.Errorf("%v: %q", x.d, s)
		}
	}
	for kind, word := range []string{"grant", "transfer", "surrender", "renewal", "will", "renounce", "child", "marriage", "death"} {
		if s := right.FormatDeed(api.Deed{Kind: kind}); s != word+" 0 - - 0 0" {
			t.Error(kind, s)
		}
	}
}

// P5.8: what is no text of a deed is ErrSyntax.
func TestWrongTextsOfDeeds(t *testing.T) {
	wrong := []string{
		"", " ", "-", "death", "death 5", "death 5 -", "death 5 - ann", "death 5 - ann 0", "death 5 - ann 0 0 ", " death 5 - ann 0 0", "death  5 - ann 0 0", "death 5  - ann 0 0",
		"death 5 -  ann 0 0", "death 5 - ann  0 0", "death 5 - ann 0  0", "death 5  ann 0 0", "death 5 -  0 0", "death 5 - ann 0 0\n", "death 5 - ann 0\t0", "death 5 - ann 0 0 bob", "death 5 - ann 0 0 bob 1", "death 5 - ann 0 0 bob 1 1 cat",
		"child 5 - ann 0 0 bob 0", "child 5 - ann 0 0 bob", "child 5 - ann 0 0  0 0", "child 5 - ann 0 0 bob 0 0 ", "child 5 - ann 0 0 bob  0 0", "child 5 - ann 0 0 bob a 0", "child 5 - ann 0 0 bob 0 a", "child 5 - ann 0 0 bob - -",
		"0 5 - ann 0 0", "8 5 - ann 0 0", "9 5 - ann 0 0", "-1 5 - ann 0 0", "Death 5 - ann 0 0", "deaths 5 - ann 0 0", "deat 5 - ann 0 0", "- 5 - ann 0 0", "death\n5 - ann 0 0", "sale 5 - ann 0 0",
		"death a - ann 0 0", "death 05 - ann 0 0", "death +5 - ann 0 0", "death -0 - ann 0 0", "death - - ann 0 0", "death -05 - ann 0 0", "death --5 - ann 0 0", "death 0x5 - ann 0 0", "death 5. - ann 0 0", "death 1_0 - ann 0 0", "death ٣ - ann 0 0",
		"death 5 - ann 00 0", "death 5 - ann 0 00", "death 5 - ann a 0", "death 5 - ann 0 a", "death 5 - ann - 0", "death 5 - ann 0 -",
		"death 10000000000 - ann 0 0", "death -10000000000 - ann 0 0", "death 5 - ann 10000000000 0", "death 5 - ann 0 10000000000", "child 5 - ann 0 0 bob 10000000000 0", "child 5 - ann 0 0 bob 0 -10000000000",
		"death 99999999999999999999 - ann 0 0", "death -99999999999999999999 - ann 0 0", "death " + strings.Repeat("9", 1000) + " - ann 0 0",
	}
	for _, s := range wrong {
		if d, e := right.ParseDeed(s); !equal(d, api.Deed{}) || e != api.ErrSyntax {
			t.Errorf("%q: %v %d", s, d, e)
		}
	}
}

// P5.8: of a text that can be read the error of CheckDeed is told.
func TestTextsOfWrongDeeds(t *testing.T) {
	tests := []struct {
		text string
		want api.Errno
	}{
		{"death 9999999999 - ann 0 0", api.ErrRange},
		{"death -9999999999 - ann 0 0", api.ErrRange},
		{"death -1 - ann 0 0", api.ErrRange},
		{"death 200001 - ann 0 0", api.ErrRange},
		{"death 5 - ann 5 0", api.ErrRange},
		{"death 5 - ann 0 -1", api.ErrRange},
		{"death 5 - ann 0 9999999999", api.ErrRange},
		{"death 5 - ann 0 0" + strings.Repeat(" ? 9999999999 -9999999999", 9), api.ErrLarge},
		{"death 5 - ? 0 0", api.ErrName},
		{"death 5 ann\n ann 0 0", api.ErrName},
		{"death 5 -- ann 0 0", api.ErrName},
		{"death 5 - \xff 0 0", api.ErrName},
		{"death 5 - " + strings.Repeat("a", 13) + " 0 0", api.ErrName},
		{"child 5 - ann 0 0 - 0 0", api.ErrName},
		{"child 5 - ann 0 0 \n 0 0", api.ErrName},
		{"death 5 - - 0 0", api.ErrForm},
		{"death 5 p ann 0 0", api.ErrForm},
		{"death 5 - ann 4 99", api.ErrForm},
		{"death 5 - ann 0 0 bob 0 0", api.ErrForm},
		{"will 5 - ann 0 0 bob 9999999999 -9999999999", api.ErrForm},
		{"will 5 - ann 0 0", api.ErrForm},
		{"grant 5 - - 0 0 ann 1 1", api.ErrForm},
		{"grant 5 p - 0 0 ann 2 2", api.ErrForm},
	}
	for _, x := range tests {
		if d, e := right.ParseDeed(x.text); !equal(d, api.Deed{}) || e != x.want {
			t.Errorf("%q: %v %d", x.text, d, e)
		}
	}
}

// P5.8: a text with one byte changed is that of the deed that it then says, or none.
func TestChangedTextsOfDeeds(t *testing.T) {
	for _, x := range deedTexts {
		for i := range x.text {
			for c := range 256 {
				s := x.text[:i] + string([]byte{byte(c)}) + x.text[i+1:]
				d, e := right.ParseDeed(s)
				if e == api.OK && (right.FormatDeed(d) != s || right.CheckDeed(d) != api.OK) || e != api.OK && !equal(d, api.Deed{}) {
					t.Errorf("%q: %v %d", s, d, e)
				}
			}
		}
	}
}
