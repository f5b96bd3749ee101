package right_test

import (
	"slices"
	"testing"

	"mortsafe/api"
	"mortsafe/right"
)

// P5.4: people are living until their death deed.
func TestAlive(t *testing.T) {
	r := rights(marriage(3, "ann", "bob"), death(5, "ann"), death(5, "cat"))
	tests := []struct {
		name string
		day  int
		want bool
	}{
		{"ann", 0, true}, {"ann", 4, true}, {"ann", 5, false}, {"ann", api.MaxDay, false}, {"bob", 9, true}, {"cat", 4, true}, {"cat", 5, false}, {"zoe", 5, true},
	}
	for _, x := range tests {
		if is, e := right.Alive(r, x.name, x.day); is != x.want || e != api.OK {
			t.Error(x, is, e)
		}
	}
}

// P5.4: the spouse is the one of the last marriage, if that one is living, whoever the
// person is, also a dead one.
func TestSpouse(t *testing.T) {
	r := rights(
		marriage(1, "ann", "bob"), marriage(2, "cat", "dan"), death(10, "bob"), marriage(20, "eve", "ann"), death(30, "eve"), death(30, "dan"), marriage(40, "cat", "ann"), death(50, "ann"),
	)
	tests := []struct {
		name string
		day  int
		want string
	}{
		{"ann", 0, ""}, {"ann", 1, "bob"}, {"ann", 9, "bob"}, {"ann", 10, ""}, {"ann", 20, "eve"}, {"ann", 29, "eve"}, {"ann", 30, ""}, {"ann", 40, "cat"}, {"ann", 50, "cat"},
		{"bob", 1, "ann"}, {"bob", 10, "ann"}, {"bob", 20, "ann"}, {"bob", 49, "ann"}, {"bob", 50, ""},
		{"eve", 19, ""}, {"eve", 20, "ann"}, {"eve", 40, "ann"}, {"eve", 50, ""},
		{"cat", 1, ""}, {"cat", 2, "dan"}, {"cat", 30, ""}, {"cat", 40, "ann"}, {"cat", 50, ""}, {"dan", 2, "cat"}, {"dan", 60, "cat"}, {"zoe", 60, ""},
	}
	for _, x := range tests {
		if s, e := right.Spouse(r, x.name, x.day); s != x.want || e != api.OK {
			t.Error(x, s, e)
		}
	}
}

// P5.4: descendants are children, their children, and so on, each one once.
func TestDescendants(t *testing.T) {
	r := rights(
		child(0, "ann", "dan"), child(0, "ann", "bob"), child(0, "eve", "dan"), child(1, "dan", "gus"), child(1, "bob", "gus"), child(2, "gus", "Ida"),
		child(3, "old", "ann"), death(4, "gus"), child(5, "gus", "cat"), marriage(5, "cat", "zoe"),
	)
	tests := []struct {
		name string
		day  int
		want []string
	}{
		{"ann", 0, []string{"bob", "dan"}}, {"ann", 1, []string{"bob", "dan", "gus"}}, {"ann", 2, []string{"Ida", "bob", "dan", "gus"}}, {"ann", 5, []string{"Ida", "bob", "cat", "dan", "gus"}},
		{"eve", 5, []string{"Ida", "cat", "dan", "gus"}}, {"bob", 5, []string{"Ida", "cat", "gus"}}, {"gus", 5, []string{"Ida", "cat"}}, {"Ida", 5, nil}, {"zoe", 5, nil}, {"nil", 5, nil},
		{"old", 2, nil}, {"old", 3, []string{"Ida", "ann", "bob", "dan", "gus"}}, {"old", 4, []string{"Ida", "ann", "bob", "dan", "gus"}},
	}
	for _, x := range tests {
		if l, e := right.Descendants(r, x.name, x.day); !slices.Equal(l, x.want) || e != api.OK {
			t.Error(x, l, e)
		}
	}
}
