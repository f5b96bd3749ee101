package money_test

import (
	"testing"

	"mortsafe/api"
	"mortsafe/money"
)

// P9.6: postings are right up to the ends of all ranges.
func TestRightPostings(t *testing.T) {
	for i, l := range [][]api.Posting{
		nil, {}, ledger(), {posting(0, 1, "a", "b"), posting(0, 1000000000000, "b", "a"), posting(200000, 1, "a", "A"), posting(200000, 1, "a", "b")}, longLedger(199), longLedger(200),
	} {
		if e := money.CheckPostings(l); e != api.OK {
			t.Error(i, e)
		}
	}
	for i, name := range rightNames {
		p := posting(5, 1, name, rightNames[(i+1)%len(rightNames)])
		l, e := money.Post(nil, p)
		check(t, "Post of the first one", l, e, []api.Posting{p})
		n, e := money.Balance(l, name, 5)
		check(t, "Balance of "+name, n, e, 1)
	}
}

func wrongPostings() []wrong[api.Posting] {
	l := []wrong[api.Posting]{
		{posting(5, 0, "a", "b"), api.ErrRange}, {posting(5, 0, "", ""), api.ErrRange}, {posting(5, 1, "a", "a"), api.ErrForm},
		{posting(200000, 1, "fees", "fees"), api.ErrForm}, {posting(-1, 1, "a", "a"), api.ErrRange}, {posting(5, 1, "", ""), api.ErrName},
	}
	for _, name := range wrongNames {
		l = append(l, wrong[api.Posting]{posting(5, 1, name, "b"), api.ErrName}, wrong[api.Posting]{posting(5, 1, "a", name), api.ErrName},
			wrong[api.Posting]{posting(5, 1, name, name), api.ErrName}, wrong[api.Posting]{posting(5, -1, name, "b"), api.ErrRange})
	}
	for _, n := range noDays {
		l = append(l, wrong[api.Posting]{posting(n, 1, "a", "b"), api.ErrRange}, wrong[api.Posting]{posting(n, 1, "", ""), api.ErrRange})
	}
	for _, n := range noCents {
		l = append(l, wrong[api.Posting]{posting(5, n, "a", "b"), api.ErrRange}, wrong[api.Posting]{posting(5, n, "a", "a"), api.ErrRange})
	}
	return l
}

// P9.6: the errors of postings, which all functions of ledgers tell, before those of the other
// arguments; a posting that goes back in time is told when all else of it is right.
func TestWrongPostings(t *testing.T) {
	all := allOfLedgers()
	checkLists(t, all, ledger(), wrongPostings(), posting(4, 1, "a", "b"), posting(-1, 1, "a", "b"))
	checkAll(t, "postings that go back", all, with(ledger(), posting(4, 1, "a", "b"), posting(5, 0, "a", "b")), api.ErrOrder)
	checkAll(t, "postings that go back by much", all, with([]api.Posting{posting(200000, 1, "a", "b")}, ledger()...), api.ErrOrder)
	checkAll(t, "postings that go back and forth", all, with(ledger(), posting(7, 1, "a", "b"), posting(6, 1, "a", "b")), api.ErrOrder)
	for want, p := range map[api.Errno]api.Posting{api.ErrForm: posting(4, 1, "a", "a"), api.ErrName: posting(4, 1, "a", ""), api.ErrRange: posting(4, 0, "a", "b")} {
		checkAll(t, "a wrong posting that goes back", all, with(ledger(), p), want)
	}
	checkAll(t, "many postings", all, longLedger(201), api.ErrLarge)
	checkAll(t, "many wrong postings", all, make([]api.Posting, 201), api.ErrLarge)
	checkAll(t, "wrong postings", all, make([]api.Posting, 199), api.ErrRange)
}

// P9.6: Post has the errors of the ledger with the posting.
func TestPost(t *testing.T) {
	for _, p := range []api.Posting{posting(5, 1, "a", "b"), posting(200000, 1000000000000, "bank", "fees")} {
		l, e := money.Post(ledger(), p)
		check(t, "Post", l, e, with(ledger(), p))
	}
	for _, c := range with(wrongPostings(), wrong[api.Posting]{posting(4, 1, "a", "b"), api.ErrOrder}, wrong[api.Posting]{posting(0, 1, "a", "b"), api.ErrOrder}) {
		l, e := money.Post(ledger(), c.x)
		checkError(t, "Post", []any{l}, e, c.want)
	}
	l, e := money.Post(longLedger(199), posting(199, 1, "a", "b"))
	check(t, "Post of the last one", l, e, with(longLedger(199), posting(199, 1, "a", "b")))
	for _, p := range []api.Posting{posting(200, 1, "a", "b"), posting(-1, 1, "a", "b")} {
		l, e = money.Post(longLedger(200), p)
		checkError(t, "Post of one too many", []any{l}, e, api.ErrLarge)
	}
}

// P9.6: balances of accounts, used or not.
func TestBalance(t *testing.T) {
	for _, c := range []struct {
		account   string
		day, want int
	}{
		{"fees", 2, 0}, {"fees", 3, 500}, {"fees", 4, 500}, {"fees", 5, 493}, {"fees", 200000, 493}, {"bank", 3, -500}, {"bank", 4, -500}, {"bank", 5, -300},
		{"cash", 4, 0}, {"cash", 5, -193}, {"gold", 5, 0}, {"Bank", 5, 0}, {"bank", 0, 0},
	} {
		n, e := money.Balance(ledger(), c.account, c.day)
		check(t, "Balance of "+c.account, n, e, c.want)
	}
	n, e := money.Balance(nil, "bank", 200000)
	check(t, "Balance of no postings", n, e, 0)
	most := repeat(200, func(int) api.Posting { return posting(0, 1000000000000, "a", "b") })
	for account, want := range map[string]int{"a": 200000000000000, "b": -200000000000000} {
		n, e := money.Balance(most, account, 0)
		check(t, "Balance of much", n, e, want)
	}
}

// P9.6: the errors of Balance and Trial behind those of the postings.
func TestWrongBalances(t *testing.T) {
	for _, name := range wrongNames {
		for _, day := range []int{5, -1} {
			n, e := money.Balance(ledger(), name, day)
			checkError(t, "Balance of a wrong account", []any{n}, e, api.ErrName)
		}
	}
	for _, day := range noDays {
		n, e := money.Balance(ledger(), "bank", day)
		checkError(t, "Balance on a wrong day", []any{n}, e, api.ErrRange)
		n, e = money.Balance(nil, "nothing", day)
		checkError(t, "Balance of nothing on a wrong day", []any{n}, e, api.ErrRange)
		for _, l := range [][]api.Posting{ledger(), nil} {
			accounts, sums, e := money.Trial(l, day)
			checkError(t, "Trial on a wrong day", []any{accounts, sums}, e, api.ErrRange)
		}
	}
}

// P9.6: the accounts that are used up to a day, ascending by their bytes, also those of 0.
func TestTrial(t *testing.T) {
	mixed := []api.Posting{posting(1, 5, "b", "a1"), posting(2, 3, "Z", "a-"), posting(3, 5, "a1", "b"), posting(3, 1, "a", "ab")}
	for _, c := range []struct {
		l        []api.Posting
		day      int
		accounts []string
		sums     []int
	}{
		{ledger(), 2, nil, nil}, {ledger(), 3, []string{"bank", "fees"}, []int{-500, 500}}, {ledger(), 4, []string{"bank", "fees"}, []int{-500, 500}},
		{ledger(), 5, []string{"bank", "cash", "fees"}, []int{-300, -193, 493}}, {ledger(), 200000, []string{"bank", "cash", "fees"}, []int{-300, -193, 493}},
		{nil, 5, nil, nil}, {mixed, 1, []string{"a1", "b"}, []int{-5, 5}}, {mixed, 2, []string{"Z", "a-", "a1", "b"}, []int{3, -3, -5, 5}},
		{mixed, 3, []string{"Z", "a", "a-", "a1", "ab", "b"}, []int{3, 1, -3, 0, -1, 0}},
	} {
		accounts, sums, e := money.Trial(c.l, c.day)
		check(t, "Trial: accounts", accounts, e, c.accounts)
		check(t, "Trial: balances", sums, e, c.sums)
	}
}

// P9.6: the posting that goes back, on the last day or behind it.
func TestReverse(t *testing.T) {
	for _, c := range []struct {
		at, day int
		want    api.Posting
		wrong   api.Errno
	}{
		{0, 5, posting(5, 500, "bank", "fees"), api.OK}, {1, 9, posting(9, 200, "cash", "bank"), api.OK}, {2, 200000, posting(200000, 7, "fees", "cash"), api.OK},
		{0, 4, api.Posting{}, api.ErrEarly}, {0, 3, api.Posting{}, api.ErrEarly}, {2, 0, api.Posting{}, api.ErrEarly},
		{3, 5, api.Posting{}, api.ErrMissing}, {-1, 5, api.Posting{}, api.ErrMissing}, {3, 4, api.Posting{}, api.ErrMissing}, {3, -1, api.Posting{}, api.ErrMissing},
		{0, -1, api.Posting{}, api.ErrRange}, {2, 200001, api.Posting{}, api.ErrRange},
	} {
		p, e := money.Reverse(ledger(), c.at, c.day)
		checkAnswer(t, "Reverse", p, e, c.want, c.wrong)
	}
	for _, n := range extremes {
		p, e := money.Reverse(ledger(), n, 4)
		checkError(t, "Reverse of none", []any{p}, e, api.ErrMissing)
		p, e = money.Reverse(ledger(), 0, n)
		checkError(t, "Reverse on a wrong day", []any{p}, e, api.ErrRange)
	}
	p, e := money.Reverse(nil, 0, 5)
	checkError(t, "Reverse without postings", []any{p}, e, api.ErrMissing)
	p, e = money.Reverse(longLedger(200), 0, 199)
	check(t, "Reverse of a full ledger", p, e, posting(199, 1, "b0", "a0"))
}
