package account_test

import (
	"fmt"
	"math"
	"math/rand"
	"testing"

	"fiacre/account"
	"fiacre/api"
)

// TestClose is of P8.3: the months up to one are closed, but none that is closed already.
func TestClose(t *testing.T) {
	for _, x := range []struct {
		closed, month int
		e             api.Errno
	}{
		{0, 0, api.OK},
		{0, 3999, api.OK},
		{0, -1, api.ErrRange},
		{0, 4000, api.ErrRange},
		{0, math.MaxInt, api.ErrRange},
		{4000, math.MinInt, api.ErrRange},
		{1, 0, api.ErrOrder},
		{1, 1, api.OK},
		{5, 4, api.ErrOrder},
		{5, 7, api.OK},
		{4000, 3999, api.ErrOrder},
		{4000, 4000, api.ErrRange},
	} {
		b := book(paid(), move(13, "ann", "cash", 5))
		b.Closed = x.closed
		got, e := account.Close(b, x.month)
		if x.e != api.OK {
			fails(t, fmt.Sprint("Close ", x), x.e)(got, e)
			continue
		}
		b.Closed = x.month + 1
		gives(t, fmt.Sprint("Close ", x), b)(got, e)
	}
}

// TestClosed is of P8.11: behind Close nothing is posted in the month, or in an earlier one.
func TestClosed(t *testing.T) {
	b := first(account.Close(book(paid()), 2))
	for _, date := range []int{0, 12, 30, 89} {
		fails(t, "Post", api.ErrState)(account.Post(b, move(date, "ann", "cash", 5)))
	}
	if b, e := account.Post(b, move(90, "ann", "cash", 5)); len(b.Entries) != 2 || e != api.OK {
		t.Errorf("Post behind the closed months: error %d", e)
	}
}

// budget is a book of accounts of all kinds.
func budget(entries ...api.AccountEntry) api.AccountBook {
	l := []api.AccountName{named("fares", api.AccountIncome), named("cash", api.AccountAsset), named("fuel", api.AccountCost), named("tips", api.AccountIncome), named("owner", api.AccountDebt), named("rent", api.AccountCost)}
	return api.AccountBook{Accounts: l, Entries: entries}
}

// closing is the closing entry of these lines.
func closing(date int, lines ...api.AccountLine) api.AccountEntry {
	return api.AccountEntry{Date: date, Note: "closing", Lines: lines}
}

// TestClosingOf is of P8.3: all income and cost, in the order of the accounts, and at last the result.
func TestClosingOf(t *testing.T) {
	gives(t, "the closing of the examples", closing(29, line("office", 100), line("owner", -100)))(account.ClosingOf(book(paid()), 0, "owner"))
	busy := budget(move(3, "fares", "cash", 900), move(29, "cash", "fuel", 400), move(29, "tips", "cash", 50), move(30, "cash", "rent", 70), move(59, "fuel", "fares", 30), move(3332*30+29, "fares", "cash", 8))
	for _, x := range []struct {
		what   string
		b      api.AccountBook
		month  int
		wanted api.AccountEntry
	}{
		{"a month", busy, 0, closing(29, line("fares", 900), line("fuel", -400), line("tips", 50), line("owner", -550))},
		{"a month with what was ahead", busy, 1, closing(59, line("fares", 870), line("fuel", -370), line("tips", 50), line("rent", -70), line("owner", -480))},
		{"the last month", busy, 3332, closing(99989, line("fares", 878), line("fuel", -370), line("tips", 50), line("rent", -70), line("owner", -488))},
		{"no result", budget(move(3, "fares", "fuel", 5)), 0, closing(29, line("fares", 5), line("fuel", -5))},
		{"one that came to 0", budget(move(3, "fares", "cash", 5), move(4, "cash", "fares", 5), move(5, "tips", "cash", 3)), 0, closing(29, line("tips", 3), line("owner", -3))},
		{"a loss", budget(move(3, "cash", "fuel", 1000000000)), 2, closing(89, line("fuel", -1000000000), line("owner", 1000000000))},
	} {
		gives(t, x.what, x.wanted)(account.ClosingOf(x.b, x.month, "owner"))
	}
	closed := busy
	closed.Closed = 4000
	gives(t, "a month that is closed", closing(29, line("fares", 900), line("fuel", -400), line("tips", 50), line("cash", -550)))(account.ClosingOf(closed, 0, "cash"))
}

// TestClosingOfErrors is of P8.3: which error comes ahead of which.
func TestClosingOfErrors(t *testing.T) {
	great := budget(move(3, "fares", "cash", 1000000000), move(4, "fares", "cash", 1))
	both := budget(move(3, "fares", "cash", 1000000000), move(4, "tips", "cash", 1))
	for _, x := range []struct {
		what   string
		b      api.AccountBook
		month  int
		result string
		e      api.Errno
	}{
		{"a month below 0", book(paid()), -1, "owner", api.ErrRange},
		{"a month behind the last date", book(paid()), 3333, "owner", api.ErrRange},
		{"the last month", book(paid()), 3332, "owner", api.OK},
		{"the month ahead of the account", book(paid()), math.MinInt, "nobody", api.ErrRange},
		{"no such account", book(paid()), 0, "nobody", api.ErrMissing},
		{"no such account and nothing to do", book(), 0, "", api.ErrMissing},
		{"a result that is income", book(paid()), 0, "office", api.ErrKind},
		{"a result that is cost", budget(move(3, "fares", "cash", 5)), 0, "rent", api.ErrKind},
		{"a result that is income and nothing to do", book(), 0, "office", api.ErrKind},
		{"nothing to do", book(), 0, "owner", api.ErrNone},
		{"nothing to do yet", book(move(30, "office", "cash", 1)), 0, "owner", api.ErrNone},
		{"something to do", book(move(30, "office", "cash", 1)), 1, "owner", api.OK},
		{"a great balance", great, 0, "owner", api.ErrLarge},
		{"a great result", both, 0, "owner", api.ErrLarge},
		{"the greatest result", budget(move(3, "fares", "cash", 999999999), move(4, "tips", "cash", 1)), 0, "owner", api.OK},
		{"a great loss", budget(move(3, "cash", "fuel", 1000000000), move(4, "cash", "rent", 1)), 0, "owner", api.ErrLarge},
		{"11 accounts", incomes(11), 0, "cash", api.OK},
		{"12 accounts", incomes(12), 0, "cash", api.ErrLarge},
		{"19 accounts", incomes(19), 0, "cash", api.ErrLarge},
	} {
		e := first(account.ClosingOf(x.b, x.month, x.result))
		_, code := account.ClosingOf(x.b, x.month, x.result)
		if code != x.e || code != api.OK && !isNothing(e) || code == api.OK && isNothing(e) {
			t.Errorf("%s: %v, error %d; want the error %d", x.what, e, code, x.e)
		}
	}
}

// incomes is a book of so many accounts of income, each of which has something.
func incomes(accounts int) api.AccountBook {
	b := api.AccountBook{Accounts: []api.AccountName{named("cash", api.AccountAsset)}}
	for i := range accounts {
		name := fmt.Sprint("i", i)
		b.Accounts = append(b.Accounts, named(name, api.AccountIncome))
		b.Entries = append(b.Entries, move(i, name, "cash", 5))
	}
	return b
}

// TestClosingBalances is of P8.11: behind the closing entry all income and cost is 0 at the end of the month.
func TestClosingBalances(t *testing.T) {
	r := rand.New(rand.NewSource(84))
	done := 0
	for range 2000 {
		b := anyBook(r, 10)
		b.Closed = 0
		month, result := r.Intn(4), anyName(r, b.Accounts)
		e, code := account.ClosingOf(b, month, result)
		if code != api.OK {
			continue
		}
		done++
		at(t, "CheckEntry", 0, api.OK)(account.CheckEntry(b.Accounts, e))
		b, code = account.Post(b, e)
		for _, x := range b.Accounts {
			if balance := slowBalance(b, x.Name, month*30+29); balance != 0 && x.Kind >= api.AccountIncome || code != api.OK {
				t.Errorf("the balance %d of the kind %d, error %d", balance, x.Kind, code)
			}
		}
		fails(t, "ClosingOf again", api.ErrNone)(account.ClosingOf(b, month, result))
	}
	if done < 300 {
		t.Errorf("too few closings: %d", done)
	}
}
