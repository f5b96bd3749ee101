package person_test

import (
	"slices"
	"strings"
	"testing"

	"mortsafe/api"
	"mortsafe/person"
)

// wrongNames are texts that are no lists of signs.
var wrongNames = []string{
	"", " ", "1", "_", "a1", "a b", " a", "a ", "a\n", "a\x00", "ä", "Müller", "\xff", "*", "a.b",
	"[", "]", "[]", "a]", "]a", "[a", "[ab", "ab]", "[ab]]", "[[ab]", "[[ab]]", "[a[bc]]", "][", "[ab][",
	"[a]", "[-]", "[ba]", "[aA]", "[a-]", "[A-]", "[aa]", "[aab]", "[abb]", "[acb]", "[aba]",
	"[?]", "[a?]", "[?a]", "[ab?]", "[??]", "[1]", "[a1]", "[1a]", "[ab1]", "[a b]", "[ab ]", "[ ab]", "[a,b]", "[a-c]", "[äb]",
	"[" + alphabet + "]", "[" + alphabet + alphabet + "]", "[" + alphabet + "?]",
}

// rightNames are names with their signs' letters, and the number of their readings.
var rightNames = []struct {
	text  string
	signs []string
	count int
}{
	{"a", []string{"a"}, 1},
	{"-", []string{"-"}, 1},
	{"--", []string{"-", "-"}, 1},
	{"Zz", []string{"Z", "z"}, 1},
	{"Mc-Gee", []string{"M", "c", "-", "G", "e", "e"}, 1},
	{"?", []string{alphabet}, 53},
	{"??", []string{alphabet, alphabet}, 2809},
	{"???", []string{alphabet, alphabet, alphabet}, 148877},
	{"[ab]", []string{"ab"}, 2},
	{"[-a]", []string{"-a"}, 2},
	{"[-A]", []string{"-A"}, 2},
	{"[Aa]", []string{"Aa"}, 2},
	{"[-Zaz]", []string{"-Zaz"}, 4},
	{"[ab]c[cd]", []string{"ab", "c", "cd"}, 4},
	{"M[ae]i?r", []string{"M", "ae", "i", alphabet, "r"}, 106},
	{"[" + alphabet[1:] + "]", []string{alphabet[1:]}, 52},
	{"[" + alphabet[:52] + "]", []string{alphabet[:52]}, 52},
	{"[" + alphabet[:26] + alphabet[27:] + "]", []string{alphabet[:26] + alphabet[27:]}, 52},
	{"[ab]" + strings.Repeat("x", 22) + "?", slices.Concat([]string{"ab"}, repeat(22, always("x")), []string{alphabet}), 106},
	{"[abcdefghij]" + strings.Repeat("[klmnopqrst]", 5), slices.Concat([]string{"abcdefghij"}, repeat(5, always("klmnopqrst"))), 1000000},
}

// largeNames are lists of signs that are too long.
var largeNames = []string{
	strings.Repeat("a", api.MaxSigns+1),
	strings.Repeat("?", api.MaxSigns+1),
	strings.Repeat("[ab]", api.MaxSigns+1),
	strings.Repeat("a", 1000) + "?",
}

// P4.1: a name is a list of signs, each one written as it should be; Signs are their
// letters, and Count is how many readings there are.
func TestRightNames(t *testing.T) {
	for _, x := range rightNames {
		if e := person.CheckName(x.text); e != api.OK {
			t.Error("CheckName", x.text, e)
		}
		if l, e := person.Signs(x.text); !slices.Equal(l, x.signs) || e != api.OK {
			t.Error("Signs", x.text, l, e)
		}
		if n, e := person.Count(x.text); n != x.count || e != api.OK {
			t.Error("Count", x.text, n, e)
		}
	}
}

// P4.1: a text that is no list of signs is ErrSyntax for all functions with a name, one
// with too many signs ErrLarge; the former is told first.
func TestWrongNames(t *testing.T) {
	check := func(s string, want api.Errno) {
		t.Helper()
		if e := person.CheckName(s); e != want {
			t.Errorf("CheckName %q: %d", s, e)
		}
		if l, e := person.Signs(s); l != nil || e != want {
			t.Errorf("Signs %q: %q %d", s, l, e)
		}
		if n, e := person.Count(s); n != 0 || e != want {
			t.Errorf("Count %q: %d %d", s, n, e)
		}
		if l, e := person.Readings(s); l != nil || e != want {
			t.Errorf("Readings %q: %q %d", s, l, e)
		}
	}
	for _, s := range wrongNames {
		check(s, api.ErrSyntax)
		if s != "" {
			check("a"+s, api.ErrSyntax)
			check("[ab]"+s, api.ErrSyntax)
		}
	}
	for _, s := range largeNames {
		check(s, api.ErrLarge)
		check(s+"1", api.ErrSyntax)
		check("[ba]"+s, api.ErrSyntax)
		check(s+"[ab", api.ErrSyntax)
	}
	for _, s := range []string{"a", "?", "[ab]"} {
		if e := person.CheckName(strings.Repeat(s, api.MaxSigns)); e != api.OK {
			t.Error("CheckName of 24 signs", s, e)
		}
	}
}

// P4.1: the letters are "-", A to Z and a to z.
func TestLetters(t *testing.T) {
	if l, e := person.Readings("?"); e != api.OK || strings.Join(l, "") != alphabet || len(l) != 53 {
		t.Error(l, e)
	}
	for c := range 256 {
		s := string([]byte{byte(c)})
		is := strings.Contains(alphabet, s)
		want := api.ErrSyntax
		if is || s == "?" {
			want = api.OK
		}
		for _, text := range []string{s, "a" + s, s + "a", "a" + s + "[bc]"} {
			if e := person.CheckName(text); e != want {
				t.Errorf("%q: %d", text, e)
			}
		}
		if l, e := person.Signs(s); is && (!slices.Equal(l, []string{s}) || e != api.OK) {
			t.Errorf("%q: %q %d", s, l, e)
		}
	}
}

// P4.1: in brackets there are two letters or more, but not all of them, and they ascend.
func TestLettersInBrackets(t *testing.T) {
	for b := range 256 {
		for c := range 256 {
			s := string([]byte{byte(b), byte(c)})
			is := b < c && strings.ContainsRune(alphabet, rune(b)) && strings.ContainsRune(alphabet, rune(c))
			l, e := person.Signs("[" + s + "]")
			if is && (!slices.Equal(l, []string{s}) || e != api.OK) || !is && (l != nil || e != api.ErrSyntax) {
				t.Fatalf("%q: %q %d", s, l, e)
			}
		}
	}
	for i := range alphabet {
		s := alphabet[:i] + alphabet[i+1:]
		if l, e := person.Signs("[" + s + "]"); !slices.Equal(l, []string{s}) || e != api.OK {
			t.Errorf("%q: %q %d", s, l, e)
		}
		if e := person.CheckName("[" + alphabet[i:i+1] + "]"); e != api.ErrSyntax {
			t.Errorf("%q: %d", alphabet[i:i+1], e)
		}
	}
}

// P4.1: more than 1000000 readings are not counted, however many they are.
func TestManyReadings(t *testing.T) {
	letters := func(n int) string { return "[" + alphabet[:n] + "]" }
	million := letters(8) + letters(9) + letters(17) + letters(19) + letters(43) // 1000008
	if n, e := person.Count(million); n != 0 || e != api.ErrLarge {
		t.Error(n, e)
	}
	if n, e := person.Count(letters(8) + letters(9) + letters(17) + letters(19) + letters(42)); n != 976752 || e != api.OK {
		t.Error(n, e)
	}
	for n := 4; n <= api.MaxSigns; n++ {
		for _, s := range []string{"?", letters(32), letters(16)} {
			if s == letters(16) && n == 4 {
				continue // 65536
			}
			if n, e := person.Count(strings.Repeat(s, n)); n != 0 || e != api.ErrLarge {
				t.Error(s, n, e)
			}
		}
	}
}

// P4.1: Readings are all readings, ascending, if there are at most 64.
func TestReadings(t *testing.T) {
	tests := []struct {
		text string
		want []string
	}{
		{"a", []string{"a"}},
		{"Meier", []string{"Meier"}},
		{"[ab]", []string{"a", "b"}},
		{"[ab][-x]", []string{"a-", "ax", "b-", "bx"}},
		{"x[Aa]y[Zz]", []string{"xAyZ", "xAyz", "xayZ", "xayz"}},
		{"[abc]-[de]", []string{"a-d", "a-e", "b-d", "b-e", "c-d", "c-e"}},
	}
	for _, x := range tests {
		if l, e := person.Readings(x.text); !slices.Equal(l, x.want) || e != api.OK {
			t.Error(x.text, l, e)
		}
	}
	for _, s := range []string{"[abcdefgh][abcdefgh]", strings.Repeat("[ab]", 6), "[" + alphabet[:32] + "]" + strings.Repeat("x", 22) + "[ab]"} {
		if l, e := person.Readings(s); len(l) != 64 || e != api.OK || !slices.IsSorted(l) || len(slices.Compact(l)) != 64 {
			t.Error(s, l, e)
		}
	}
	for _, s := range []string{"[abcde][abcdefghijklm]", "?[ab]", strings.Repeat("[ab]", 7), "????", strings.Repeat("?", 24)} {
		if l, e := person.Readings(s); l != nil || e != api.ErrLarge {
			t.Error(s, l, e)
		}
	}
}

// P4.2: the common text has, sign by sign, the letters that both names have.
func TestCommon(t *testing.T) {
	most, other := alphabet[1:], alphabet[:52]
	tests := []struct {
		a, b, want string
	}{
		{"M[ae]ier", "Me[iy]er", "Meier"},
		{"Meier", "Meier", "Meier"},
		{"?", "?", "?"},
		{"?", "a", "a"},
		{"?", "[ab]", "[ab]"},
		{"?[ab]", "[xy][abc]", "[xy][ab]"},
		{"[abc]", "[bcd]", "[bc]"},
		{"[abc]", "[cde]", "c"},
		{"[-Aa]", "[-a]", "[-a]"},
		{"[" + most + "]", "[" + other + "]", "[" + alphabet[1:52] + "]"},
		{"[" + most + "]", "?", "[" + most + "]"},
		{strings.Repeat("?", 24), strings.Repeat("[ab]", 23) + "c", strings.Repeat("[ab]", 23) + "c"},
	}
	for _, x := range tests {
		for _, names := range [][2]string{{x.a, x.b}, {x.b, x.a}} {
			if s, e := person.Common(names[0], names[1]); s != x.want || e != api.OK {
				t.Error(names, s, e)
			}
		}
	}
	none := [][2]string{{"Maier", "Meier"}, {"a", "b"}, {"a", "A"}, {"[ab]", "[cd]"}, {"?a", "?b"}, {"a?", "b?"}, {"a", "aa"}, {"?", "??"}, {"ab", "a"}, {"Mayr", "Maier"}}
	for _, x := range none {
		for _, names := range [][2]string{{x[0], x[1]}, {x[1], x[0]}} {
			if s, e := person.Common(names[0], names[1]); s != "" || e != api.ErrNone {
				t.Error(names, s, e)
			}
		}
	}
}

// P4.2: the distance is the least number of letters put in, taken out or replaced.
func TestDistance(t *testing.T) {
	long := strings.Repeat("a", 24)
	tests := []struct {
		a, b string
		want int
	}{
		{"Maier", "Meier", 1},
		{"Mayr", "Maier", 2},
		{"M[ae]ier", "Meier", 0},
		{"M[ae]ier", "Me[iy]er", 0},
		{"a", "a", 0},
		{"a", "b", 1},
		{"a", "A", 1},
		{"ab", "ba", 2},
		{"a", "bcd", 3},
		{"a", "bac", 2},
		{"?", "xyz", 2},
		{"??", "xyz", 1},
		{"[ab]", "[bc]", 0},
		{"[ab]", "[cd]", 1},
		{"[ab]c", "c", 1},
		{"c[ab]", "c", 1},
		{"kitten", "sitting", 3},
		{"Saturday", "Sunday", 3},
		{"abcdef", "bcdefa", 2},
		{"a?c", "abbc", 1},
		{long, "a", 23},
		{long, "b", 24},
		{long, long, 0},
		{long, strings.Repeat("b", 24), 24},
		{long, strings.Repeat("?", 24), 0},
		{long, strings.Repeat("b", 23), 24},
		{long, "b" + strings.Repeat("a", 22) + "b", 2},
	}
	for _, x := range tests {
		for _, names := range [][2]string{{x.a, x.b}, {x.b, x.a}} {
			if n, e := person.Distance(names[0], names[1]); n != x.want || e != api.OK {
				t.Error(names, n, e)
			}
		}
	}
}

// P4.2: the error of the first name is told before that of the second one, and both
// before that there is no common text.
func TestErrorsOfTwoNames(t *testing.T) {
	large := largeNames[0]
	tests := []struct {
		a, b string
		want api.Errno
	}{
		{"", "a", api.ErrSyntax},
		{"a", "", api.ErrSyntax},
		{"[ba]", "[ab]", api.ErrSyntax},
		{"[ab]", "[ba]", api.ErrSyntax},
		{large, "a", api.ErrLarge},
		{"a", large, api.ErrLarge},
		{large, "1", api.ErrLarge},
		{"1", large, api.ErrSyntax},
		{large, large, api.ErrLarge},
	}
	for _, x := range tests {
		if s, e := person.Common(x.a, x.b); s != "" || e != x.want {
			t.Error("Common", x.a, x.b, s, e)
		}
		if n, e := person.Distance(x.a, x.b); n != 0 || e != x.want {
			t.Error("Distance", x.a, x.b, n, e)
		}
	}
}
