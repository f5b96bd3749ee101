package ground_test

import (
	"reflect"
	"slices"
	"strings"
	"testing"

	"mortsafe/api"
	"mortsafe/ground"
)

const exampleText = "section s 0 0 100 0 100 100 0 100\nplot b 50 0 100 0 100 50 50 50\n"

// P1.7: Print, with the example, and the errors of the section.
func TestPrint(t *testing.T) {
	for _, c := range []struct {
		what string
		s    api.Section
		want string
		err  api.Errno
	}{
		{"the example", section(plot("b", box(50, 0, 100, 50))), exampleText, api.OK},
		{"no plots", api.Section{Name: "A-9", Corners: points(-100000, -7, 5, 0, 0, 100000)}, "section A-9 -100000 -7 5 0 0 100000\n", api.OK},
		{"no name", api.Section{}, "", api.ErrName},
		{"a wrong plot", section(plot("b", box(50, 0, 101, 50))), "", api.ErrRange},
		{"an overlap", section(plot("b", box(50, 0, 100, 50)), plot("c", box(50, 0, 100, 50))), "", api.ErrClash},
	} {
		if s, e := ground.Print(c.s); s != c.want || e != c.err {
			t.Errorf("%s: %q %d", c.what, s, e)
		}
	}
}

// P1.7: texts that Parse refuses, with the first wrong line.
func TestParseErrors(t *testing.T) {
	const head = "section s 0 0 100 0 100 100 0 100\n"
	for _, c := range []struct {
		what, text string
		line       int
		want       api.Errno
	}{
		{"nothing", "", 1, api.ErrSyntax},
		{"an empty line", "\n", 1, api.ErrSyntax},
		{"a wrong empty line first", "\n" + head, 1, api.ErrSyntax},
		{"an empty line behind", head + "\n", 2, api.ErrSyntax},
		{"no line feed", strings.TrimSuffix(head, "\n"), 1, api.ErrSyntax},
		{"no line feed at the plot", strings.TrimSuffix(exampleText, "\n"), 2, api.ErrSyntax},
		{"a carriage return", "section s 0 0 100 0 100 100 0 100\r\n", 1, api.ErrSyntax},
		{"a plot first", "plot b 50 0 100 0 100 50 50 50\n", 1, api.ErrSyntax},
		{"two sections", head + head, 2, api.ErrSyntax},
		{"other words", head + "Plot b 0 0 1 0 0 1\n", 2, api.ErrSyntax},
		{"a longer word", "sections s 0 0 1 0 0 1\n", 1, api.ErrSyntax},
		{"no word", " s 0 0 1 0 0 1\n", 1, api.ErrSyntax},
		{"the word alone", "section\n", 1, api.ErrSyntax},
		{"the plot's word alone", head + "plot\n", 2, api.ErrSyntax},
		{"a single number", "section s 0 0 1\n", 1, api.ErrSyntax},
		{"a single number and no other", "section s 0\n", 1, api.ErrSyntax},
		{"a blank ahead", " section s 0 0 1 0 0 1\n", 1, api.ErrSyntax},
		{"a blank at the end", "section s 0 0 1 0 0 1 \n", 1, api.ErrSyntax},
		{"two blanks", "section s 0 0  1 0 0 1\n", 1, api.ErrSyntax},
		{"two blanks and a pair", "section s 0 0  1 0 0 1 2\n", 1, api.ErrSyntax},
		{"a tab", "section s 0\t0 1 0 0 1\n", 1, api.ErrSyntax},
		{"a leading zero", "section s 00 0 1 0 0 1\n", 1, api.ErrSyntax},
		{"another leading zero", "section s 0 0 1 0 0 01\n", 1, api.ErrSyntax},
		{"a leading zero behind a sign", "section s -01 0 1 0 0 1\n", 1, api.ErrSyntax},
		{"a plus sign", "section s +1 0 1 0 0 1\n", 1, api.ErrSyntax},
		{"minus zero", "section s -0 0 1 0 0 1\n", 1, api.ErrSyntax},
		{"a sign alone", "section s - 0 1 0 0 1\n", 1, api.ErrSyntax},
		{"two signs", "section s --1 0 1 0 0 1\n", 1, api.ErrSyntax},
		{"a letter", "section s 0x1 0 1 0 0 1\n", 1, api.ErrSyntax},
		{"an underline", "section s 1_0 0 1 0 0 1\n", 1, api.ErrSyntax},
		{"a fraction", "section s 1.0 0 1 0 0 1\n", 1, api.ErrSyntax},
		{"a digit of another script", "section s ١ 0 1 0 0 1\n", 1, api.ErrSyntax},
		{"a byte before 0", "section s / 0 1 0 0 1\n", 1, api.ErrSyntax},
		{"a byte behind 9", "section s : 0 1 0 0 1\n", 1, api.ErrSyntax},
		{"eight digits", "section s 12345678 0 1 0 0 1\n", 1, api.ErrSyntax},
		{"eight digits and a sign", "section s -12345678 0 1 0 0 1\n", 1, api.ErrSyntax},
		{"very many digits", "section s 99999999999999999999999 0 1 0 0 1\n", 1, api.ErrSyntax},
		{"the third line", head + "plot a 0 0 1 0 0 1\nplot b 0 0 1 0 0\nplot\n", 3, api.ErrSyntax},
		{"syntax before the other errors", "section  0 0\nplot\n", 2, api.ErrSyntax},
		{"seven digits", "section s 9999999 0 1 0 0 1\n", 0, api.ErrRange},
		{"seven digits and a sign", "section s -9999999 0 1 0 0 1\n", 0, api.ErrRange},
		{"an empty name", "section  0 0 1 0 0 1\n", 0, api.ErrName},
		{"an empty name alone", "section \n", 0, api.ErrName},
		{"a strange name", "section (\t) 0 0 1 0 0 1\n", 0, api.ErrName},
		{"no corners", "section s\n", 0, api.ErrShape},
		{"a plot without a name", head + "plot  0 0 1 0 0 1\n", 0, api.ErrName},
		{"a plot without corners", head + "plot a\n", 0, api.ErrShape},
		{"61 plots", head + strings.Repeat("plot \n", 61), 0, api.ErrLarge},
		{"an overlap", exampleText + "plot c 50 0 100 0 100 50 50 50\n", 0, api.ErrClash},
		{"60000 bytes", strings.Repeat("x", 60000), 1, api.ErrSyntax},
		{"60001 bytes", strings.Repeat("x", 60001), 0, api.ErrLarge},
		{"60000 line feeds", head + strings.Repeat("\n", 60000-len(head)), 2, api.ErrSyntax},
	} {
		s, n, e := ground.Parse(c.text)
		if !reflect.DeepEqual(s, api.Section{}) || n != c.line || e != c.want {
			t.Error(c.what, s, n, e, "not", c.line, c.want)
		}
	}
}

func sameSections(a, b api.Section) bool {
	return a.Name == b.Name && slices.Equal(a.Corners, b.Corners) && slices.EqualFunc(a.Plots, b.Plots, func(p, q api.Plot) bool {
		return p.Name == q.Name && slices.Equal(p.Corners, q.Corners)
	})
}

// greatest has as many plots and corners as there may be, with numbers as long as
// they may be.
func greatest() api.Section {
	s := api.Section{Name: "abcdefghijkl", Corners: box(-100000, -100000, 100000, 100000)}
	for i := range api.MaxPlots {
		corners := comb(api.MaxCorners, -100000+80*(i%10), -100000+6*(i/10))
		s.Plots = append(s.Plots, plot(name(i), corners))
	}
	return s
}

// P1.7 and P1.10: Parse undoes Print.
func TestParsePrint(t *testing.T) {
	for _, s := range []api.Section{
		section(),
		example(),
		field(60),
		greatest(),
		{Name: "Z-0", Corners: points(-100000, -7, 5, 0, 0, 100000)},
	} {
		text, e := ground.Print(s)
		if e != api.OK {
			t.Fatal(s.Name, e)
		}
		if x, n, e := ground.Parse(text); !sameSections(x, s) || n != 0 || e != api.OK {
			t.Error(s.Name, x, n, e)
		}
	}
}
