package notice_test

import (
	"math/rand"
	"reflect"
	"slices"
	"strconv"
	"strings"
	"testing"

	"mortsafe/api"
	"mortsafe/notice"
)

// roomy returns a list with room behind its end, in which a careless append would write.
func roomy[T any](l []T, behind T) []T {
	l = append(slices.Clone(l), behind, behind, behind)
	return l[:len(l)-3]
}

// wholeOf returns a list with what is written behind its end.
func wholeOf[T any](l []T) []T { return l[:len(l)+3] }

// args are arguments of all functions.
type args struct {
	g       api.Grading
	v       api.Visit
	m       []api.Monument
	day     int
	p       api.Procedure
	order   []int
	l       []api.Stop
	at      [2]int
	n       []api.Notice
	a       api.NoticeAct
	between [2]int
	r       api.Reuse
	t       string
}

// first returns the first element of a list, if there is one.
func first[T any](l []T) T {
	var x T
	if len(l) > 0 {
		x = l[0]
	}
	return x
}

func arguments() args {
	behind := api.NoticeAct{Day: 77, Kind: 77}
	room := func(n api.Notice) api.Notice {
		return change(n, func(n *api.Notice) { n.Acts = roomy(n.Acts, behind) })
	}
	m := []api.Monument{monument("a", graded(0, 1), graded(5, 3)), monument("b"), monument("c", repaired(1)), monument("d", laidDown(2))}
	for i := range m {
		m[i].Visits = roomy(m[i].Visits, laidDown(77))
	}
	all := []api.Notice{room(opened(0, [3]int{0, 0}, [3]int{5, 6, 1})), room(named("m", opened(0, [3]int{0, 0}))), room(named("o", opened(3)))}
	return args{
		g: grading(), v: graded(5, 2), m: roomy(m, monument("behind")), day: 9,
		p:     change(procedure(), func(p *api.Procedure) { p.Holidays = roomy(newYear(), api.Holiday{Name: "behind"}) }),
		order: roomy([]int{7, 8, 9}, 77), l: roomy([]api.Stop{stop(9, 8), stop(7, 6), stop(8, 7)}, stop(77, 77)), at: [2]int{4, 2},
		n: roomy(all, named("behind", opened(7))), a: api.NoticeAct{Day: 9, Kind: api.Objection}, between: [2]int{0, 99},
		r: reuse(40, 100, all[0]), t: "notice n 0\nact 0 0 0\nact 5 6 1\n",
	}
}

// everything is the results of all functions.
func everything(x args) []any {
	of := func(results ...any) []any { return results }
	m, n := first(x.m), first(x.n)
	return slices.Concat(
		of(notice.CheckGrading(x.g)), of(notice.GradeOf(x.g, x.v)), of(notice.CheckMonument(m)), of(notice.GradeAt(x.g, m, x.day)),
		of(notice.NextVisit(x.g, m, x.day)), of(notice.Round(x.g, x.m, x.day)), of(notice.PlanRound(x.p, x.order, x.at)),
		of(notice.CheckRound(x.p, x.order, x.l, x.at)), of(notice.CheckProcedure(x.p)), of(notice.CheckNotice(x.p, n)),
		of(notice.Phase(x.p, n, x.day)), of(notice.DeadlineAt(x.p, n, x.day)), of(notice.ObjectUntil(x.p, n, x.day)),
		of(notice.Add(x.p, n, x.a)), of(notice.May(x.p, n, x.day)), of(notice.ExpiresAt(x.p, n)), of(notice.Due(x.p, x.n, x.between)),
		of(notice.Earliest(x.p, x.r)), of(notice.Blocks(x.p, x.r, x.day)), of(notice.Print(n)), of(notice.Parse(x.t)),
	)
}

// withRoom are arguments with what is written behind their ends.
func withRoom(x args) args {
	x.m, x.order, x.l, x.n, x.p.Holidays = wholeOf(x.m), wholeOf(x.order), wholeOf(x.l), wholeOf(x.n), wholeOf(x.p.Holidays)
	for i := range x.m[:4] {
		x.m[i].Visits = wholeOf(x.m[i].Visits)
	}
	for i := range x.n[:3] {
		x.n[i].Acts = wholeOf(x.n[i].Acts)
	}
	return x
}

// R3 (P1): no function writes into its arguments, or behind them.
func TestArgumentsStay(t *testing.T) {
	x := arguments()
	for i, result := range everything(x) {
		if e, is := result.(api.Errno); is && e != api.OK {
			t.Error(i, e)
		}
	}
	if got, want := withRoom(x), withRoom(arguments()); !reflect.DeepEqual(got, want) {
		t.Error(got, want)
	}
}

// spoil fills a list, up to its capacity, with zeros, and all lists in it.
func spoil(v reflect.Value) {
	switch v.Kind() {
	case reflect.Slice:
		all := v.Slice(0, v.Cap())
		for i := range all.Len() {
			if i < v.Len() {
				spoil(all.Index(i))
			}
			all.Index(i).SetZero()
		}
	case reflect.Struct:
		for i := range v.NumField() {
			spoil(v.Field(i))
		}
	}
}

// R3 (P1): writing into results, or behind them, changes no argument and no other result.
func TestResultsAreApart(t *testing.T) {
	x := arguments()
	before, want := everything(x), everything(arguments())
	for _, result := range everything(x) {
		spoil(reflect.ValueOf(result))
	}
	if !reflect.DeepEqual(before, want) || !reflect.DeepEqual(everything(x), want) {
		t.Error(before)
	}
	if got, args := withRoom(x), withRoom(arguments()); !reflect.DeepEqual(got, args) {
		t.Error(got, args)
	}
}

// R4 (P1): the same arguments give the same results.
func TestResultsAreRepeated(t *testing.T) {
	before := everything(arguments())
	for range 30 {
		if got := everything(arguments()); !reflect.DeepEqual(got, before) {
			t.Fatal(got, before)
		}
	}
}

// R5 (P1): nil lists and empty ones are the same.
func TestNoLists(t *testing.T) {
	none := api.Procedure{}
	empty := change(none, func(p *api.Procedure) { p.Holidays = []api.Holiday{} })
	n := opened(5)
	without := change(n, func(n *api.Notice) { n.Acts = []api.NoticeAct{} })
	for _, x := range []args{
		{m: []api.Monument{monument("a")}, day: 5, p: none, at: [2]int{3, 1}, n: []api.Notice{n}, a: api.NoticeAct{Day: 5}, r: reuse(0, 0, n), t: "notice n 5\n"},
		{m: []api.Monument{monument("a", []api.Visit{}...)}, day: 5, p: empty, order: []int{}, l: []api.Stop{}, at: [2]int{3, 1}, n: []api.Notice{without}, a: api.NoticeAct{Day: 5}, r: reuse(0, 0, without), t: "notice n 5\n"},
	} {
		got := everything(x)
		want := []any{
			api.OK, 3, api.OK, api.OK, 0, api.ErrMissing, 0, api.ErrMissing, []int{0}, api.OK, []api.Stop{}, api.OK, 3, api.OK, api.OK, 0, api.OK,
			0, api.OK, 0, api.ErrNone, 0, api.ErrNone, opened(5, [3]int{5}), api.OK, []int{0}, api.OK, 0, api.ErrState, []int{}, api.OK,
			0, api.ErrNone, []int{2}, api.OK, "notice n 5\n", api.OK, n, 0, api.OK,
		}
		if len(got) != len(want) {
			t.Fatal(len(got), len(want))
		}
		for i := range want {
			if !equal(got[i], want[i]) {
				t.Error(i, got[i], want[i])
			}
		}
	}
}

// R2 (P1): large arguments end soon, and nothing panics.
func TestLargeArguments(t *testing.T) {
	const many = 1 << 20
	n := opened(0)
	n.Acts = make([]api.NoticeAct, many)
	x := args{
		m: with([]api.Monument{monument("a", make([]api.Visit, many)...)}, make([]api.Monument, many)...), order: countUp(many),
		l: make([]api.Stop, many), at: [2]int{0, 1}, n: with([]api.Notice{n}, make([]api.Notice, many)...), r: reuse(0, 0, n), t: strings.Repeat("notice ", many),
	}
	for i, result := range everything(x) {
		if e, is := result.(api.Errno); is && e != api.ErrLarge && e != api.OK {
			t.Error(i, e)
		}
	}
	x.p.Holidays = make([]api.Holiday, many)
	for _, f := range allOfProcedures() {
		if got, e := f.ask(x.p); e != api.ErrLarge {
			t.Error(f.what, got, e)
		}
	}
	_, missing := notice.CheckRound(api.Procedure{}, countUp(60), repeat(many, func(i int) api.Stop { return stop(i, 0) }), [2]int{0, 60})
	_, line, syntax := notice.Parse("notice " + strings.Repeat("1 ", 29000) + "\n")
	if missing != api.ErrMissing || line != 1 || syntax != api.ErrSyntax {
		t.Error(missing, line, syntax)
	}
}

// R2 (P1): the largest arguments that are right end soon, too.
func TestMostOfAll(t *testing.T) {
	long := api.Period{Months: 1, Days: 2000, Working: true}
	p := api.Procedure{Runs: long, Object: long, Wait: long, Extensions: 12, Longest: 3660}
	p.Holidays = repeat(40, func(i int) api.Holiday {
		return api.Holiday{Name: "h" + strconv.Itoa(i), Kind: 2, Month: 1 + i%12, Day: 1 + i/12, Weekday: i % 5}
	})
	l := repeat(40, func(i int) api.Notice { return named("n"+strconv.Itoa(i), longNotice(39)) })
	got, e := notice.Due(p, l, [2]int{0, 200000})
	check(t, "Due", got, e, countUp(40))
	may, e := notice.May(p, l[0], 0)
	check(t, "May", may, e, []int{1, 3, 6, 7})
	plan, e := notice.PlanRound(p, countUp(60), [2]int{0, 1})
	if len(plan) != 60 || e != api.OK {
		t.Error(plan, e)
	}
	round, e := notice.Round(grading(), monuments(60), 200000)
	check(t, "Round", round, e, countUp(60))
}

// R2 (P1): whatever the arguments are, all functions end and do not panic.
func TestAnyArguments(t *testing.T) {
	r := rand.New(rand.NewSource(91))
	number := func() int {
		if r.Intn(40) == 0 {
			return pickOne(r, with(extremes, 199999, 200000, 200001))
		}
		return r.Intn(9)
	}
	name := func() string {
		if r.Intn(40) == 0 {
			return pickOne(r, wrongNames)
		}
		return pickOne(r, []string{"a", "b", "c", "d", "e", "f", "g"})
	}
	anyAct := func(int) api.NoticeAct { return api.NoticeAct{Day: number(), Kind: number(), Days: number() / 7} }
	anyNotice := func(int) api.Notice {
		n := api.Notice{Name: name(), Opened: number() / 7, Acts: repeat(r.Intn(4), anyAct)}
		if len(n.Acts) > 0 {
			n.Acts[0].Kind, n.Acts[0].Days = 0, 0
		}
		return n
	}
	period := func() api.Period {
		return api.Period{Months: number(), Days: number(), Working: r.Intn(2) == 0}
	}
	errors := map[api.Errno]int{}
	for range 20000 {
		x := args{
			g: api.Grading{Tilt: [3]int{0, 5, 3 + number()}, Push: [3]int{9, 7, number()}, Months: [4]int{9, 9, 9, number()}},
			v: api.Visit{Day: number(), Kind: number() / 4, Tilt: number(), Push: number()}, day: number(),
			m: repeat(r.Intn(4), func(int) api.Monument {
				return api.Monument{Name: name(), Place: name(), Visits: repeat(r.Intn(3), func(i int) api.Visit {
					return api.Visit{Day: i * number(), Kind: number() / 7, Tilt: number() / 7}
				})}
			}),
			p:     api.Procedure{Runs: period(), Object: period(), Wait: period(), Extensions: number(), Longest: number()},
			order: repeat(r.Intn(4), func(int) int { return number() }), at: [2]int{number(), number()},
			l: repeat(r.Intn(4), func(int) api.Stop { return stop(number(), number()) }),
			n: repeat(r.Intn(4), anyNotice), a: anyAct(0), between: [2]int{number(), number()}, r: reuse(number(), number(), anyNotice(0)),
			t: strings.Join([]string{"notice", "act", "act"}, pickOne(r, []string{"\n", " ", " 1 1 1\n", " 1 1\n"})),
		}
		for _, result := range everything(x) {
			if e, is := result.(api.Errno); is {
				errors[e]++
			}
		}
	}
	if len(errors) < 15 {
		t.Error(errors)
	}
}
