package account_test

import (
	"fmt"
	"math"
	"math/rand"
	"slices"
	"testing"

	"fiacre/account"
	"fiacre/api"
)

// notes is the notes of entries, one behind the other.
func notes(b api.AccountBook) string {
	s := ""
	for _, e := range b.Entries {
		s += e.Note
	}
	return s
}

func noted(e api.AccountEntry, note string) api.AccountEntry {
	e.Note = note
	return e
}

// TestPost is of P8.2: an entry comes behind all entries of its date and of earlier ones.
func TestPost(t *testing.T) {
	b := book()
	for _, x := range []struct {
		date         int
		note, wanted string
	}{
		{12, "a", "a"},
		{12, "b", "ab"},
		{11, "c", "cab"},
		{13, "d", "cabd"},
		{12, "e", "cabed"},
		{0, "f", "fcabed"},
		{100000, "g", "fcabedg"},
		{11, "h", "fchabedg"},
	} {
		wanted := book(slices.Clone(b.Entries)...)
		e := noted(move(x.date, "ann", "cash", 5), x.note)
		posted, code := account.Post(b, e)
		if got := notes(posted); got != x.wanted || code != api.OK {
			t.Errorf("%s: %s, error %d; want %s", x.note, got, code, x.wanted)
		}
		i := slices.IndexFunc(posted.Entries, func(e api.AccountEntry) bool { return e.Note == x.note })
		wanted.Entries = slices.Insert(wanted.Entries, i, e)
		gives(t, "Post "+x.note, wanted)(posted, code)
		b = posted
	}
}

// TestPostErrors is of P8.2 and P8.11: nothing is posted in a closed month, or in a full book.
func TestPostErrors(t *testing.T) {
	for _, x := range []struct {
		closed, date int
		e            api.Errno
	}{
		{0, 0, api.OK},
		{1, 0, api.ErrState},
		{1, 29, api.ErrState},
		{1, 30, api.OK},
		{2, 59, api.ErrState},
		{2, 60, api.OK},
		{3333, 100000, api.OK},
		{3334, 100000, api.ErrState},
		{4000, 100000, api.ErrState},
	} {
		b := book(move(20, "ann", "cash", 1))
		b.Closed = x.closed
		posted, e := account.Post(b, move(x.date, "cash", "ann", 3))
		if e != x.e || e == api.OK && (len(posted.Entries) != 2 || posted.Closed != x.closed) {
			t.Errorf("%d months are closed, the date is %d: %v, error %d", x.closed, x.date, posted, e)
		}
		b = full(100)
		b.Closed = x.closed
		wanted := x.e
		if wanted == api.OK {
			wanted = api.ErrFull
		}
		fails(t, fmt.Sprint("a full book: ", x), wanted)(account.Post(b, move(x.date, "cash", "ann", 3)))
	}
	if b, e := account.Post(full(99), move(50, "cash", "ann", 3)); e != api.OK || len(b.Entries) != 100 {
		t.Errorf("the last entry that has room: %d entries, error %d", len(b.Entries), e)
	}
}

// TestBalances is of P8.2: the balances of the document's example, and their errors.
func TestBalances(t *testing.T) {
	b := book(paid(), move(20, "cash", "owner", 501))
	gives(t, "Balances behind the trip", []int{600, 500, -499, -501, -100})(account.Balances(book(paid())))
	gives(t, "Balances", []int{99, 500, -499, 0, -100})(account.Balances(b))
	gives(t, "Balances of no entries", []int{0, 0, 0, 0, 0})(account.Balances(book()))
	for _, x := range []struct {
		name         string
		date, wanted int
	}{
		{"ann", 11, 0},
		{"ann", 12, -499},
		{"ann", 100000, -499},
		{"owner", 0, 0},
		{"owner", 19, -501},
		{"owner", 20, 0},
		{"cash", 20, 99},
	} {
		gives(t, fmt.Sprint("BalanceOf ", x), x.wanted)(account.BalanceOf(b, x.name, x.date))
	}
	for _, date := range []int{-1, 100001, math.MinInt, math.MaxInt} {
		fails(t, "BalanceOf a date that is none", api.ErrRange)(account.BalanceOf(b, "ann", date))
		fails(t, "BalanceOf neither", api.ErrMissing)(account.BalanceOf(b, "", date))
	}
	for _, name := range []string{"bob", "", "Ann"} {
		fails(t, "BalanceOf nobody", api.ErrMissing)(account.BalanceOf(b, name, 5))
		fails(t, "OpenItems of nobody", api.ErrMissing)(account.OpenItems(b, name))
		fails(t, "Statement of nobody", api.ErrMissing)(account.Statement(b, name, [2]int{-1, -2}))
	}
}

// TestStatement is of P8.2: rows from day to day, each with the balance behind its entry.
func TestStatement(t *testing.T) {
	b := book(move(5, "ann", "cash", 7), paid(), move(12, "owner", "office", 3), move(12, "cash", "ann", 99), entry(30, line("ann", 4), line("ann", -4)), move(31, "ann", "office", 1))
	for _, x := range []struct {
		days   [2]int
		wanted []api.AccountRow
	}{
		{[2]int{0, 100000}, []api.AccountRow{{Entry: 0, Amount: -7, Balance: -7}, {Entry: 1, Amount: -499, Balance: -506}, {Entry: 3, Amount: 99, Balance: -407}, {Entry: 4, Amount: 0, Balance: -407}, {Entry: 5, Amount: -1, Balance: -408}}},
		{[2]int{12, 12}, []api.AccountRow{{Entry: 1, Amount: -499, Balance: -506}, {Entry: 3, Amount: 99, Balance: -407}}},
		{[2]int{5, 11}, []api.AccountRow{{Entry: 0, Amount: -7, Balance: -7}}},
		{[2]int{6, 11}, nil},
		{[2]int{6, 12}, []api.AccountRow{{Entry: 1, Amount: -499, Balance: -506}, {Entry: 3, Amount: 99, Balance: -407}}},
		{[2]int{31, 31}, []api.AccountRow{{Entry: 5, Amount: -1, Balance: -408}}},
		{[2]int{32, 100000}, nil},
	} {
		gives(t, fmt.Sprint("Statement ", x.days), x.wanted)(account.Statement(b, "ann", x.days))
	}
	for _, x := range []struct {
		days [2]int
		e    api.Errno
	}{
		{[2]int{-1, 5}, api.ErrRange},
		{[2]int{5, -1}, api.ErrRange},
		{[2]int{100001, 5}, api.ErrRange},
		{[2]int{5, 100001}, api.ErrRange},
		{[2]int{math.MaxInt, math.MinInt}, api.ErrRange},
		{[2]int{6, 5}, api.ErrOrder},
		{[2]int{100000, 0}, api.ErrOrder},
	} {
		fails(t, fmt.Sprint("Statement ", x.days), x.e)(account.Statement(b, "ann", x.days))
	}
}

// TestOpenItems is of P8.2: the oldest item is settled first, and what stands over settles what is opened later.
func TestOpenItems(t *testing.T) {
	of := func(amounts ...int) api.AccountBook {
		b := book()
		for i, amount := range amounts {
			b.Entries = append(b.Entries, entry(i, line("ann", amount), line("cash", -amount)))
		}
		return b
	}
	for _, x := range []struct {
		what   string
		b      api.AccountBook
		wanted []api.AccountItem
	}{
		{"no entries", book(), nil},
		{"the oldest first", of(5, 7, -6), []api.AccountItem{{Entry: 1, Open: 6}}},
		{"a part of the oldest", of(5, 7, -4), []api.AccountItem{{Entry: 0, Open: 1}, {Entry: 1, Open: 7}}},
		{"just the oldest", of(5, 7, -5), []api.AccountItem{{Entry: 1, Open: 7}}},
		{"all", of(5, 7, -12), nil},
		{"more than all", of(5, 7, -13), nil},
		{"what stands over", of(5, -13, 7, 4), []api.AccountItem{{Entry: 3, Open: 3}}},
		{"over at first", of(-4, 7), []api.AccountItem{{Entry: 1, Open: 3}}},
		{"over for two", of(-9, 7, 1, 3), []api.AccountItem{{Entry: 3, Open: 2}}},
		{"again and again", of(3, -3, 4, -5, 6, 2, -1), []api.AccountItem{{Entry: 4, Open: 4}, {Entry: 5, Open: 2}}},
		{"lines one by one", book(entry(0, line("ann", 5), line("cash", -9), line("ann", -3), line("ann", 7))), []api.AccountItem{{Entry: 0, Open: 9}}},
		{"lines that settle each other", book(entry(0, line("ann", 5), line("ann", -5)), move(1, "cash", "ann", 2)), []api.AccountItem{{Entry: 1, Open: 2}}},
		{"an earlier line stands over", book(entry(0, line("ann", -5), line("ann", 5)), move(1, "cash", "ann", 2)), []api.AccountItem{{Entry: 1, Open: 2}}},
	} {
		gives(t, x.what, x.wanted)(account.OpenItems(x.b, "ann"))
	}
	b := book(paid())
	gives(t, "the vouchers of the examples", []api.AccountItem{{Entry: 0, Open: 500}})(account.OpenItems(b, "vouchers"))
	b = first(account.Post(b, move(13, "vouchers", "cash", 200)))
	gives(t, "behind a payment", []api.AccountItem{{Entry: 0, Open: 300}})(account.OpenItems(b, "vouchers"))
}

// TestBooksLikeSlow is of P8.2: balances, statements and items of random books are as defined.
func TestBooksLikeSlow(t *testing.T) {
	r := rand.New(rand.NewSource(81))
	for range 2000 {
		b := anyBook(r, 12)
		name, date := anyName(r, b.Accounts), r.Intn(100)
		gives(t, "BalanceOf", slowBalance(b, name, date))(account.BalanceOf(b, name, date))
		wanted := make([]int, len(b.Accounts))
		for i, x := range b.Accounts {
			wanted[i] = slowBalance(b, x.Name, 100000)
		}
		gives(t, "Balances", wanted)(account.Balances(b))
		days := [2]int{date, date + r.Intn(60)}
		gives(t, "Statement", slowRows(b, name, days))(account.Statement(b, name, days))
		items, _ := slowItems(b, name)
		gives(t, "OpenItems", items)(account.OpenItems(b, name))
	}
}

// TestBalanced is of P8.8, and of P5: all balances come to 0 up to each date, and a statement ends with the balance.
func TestBalanced(t *testing.T) {
	r := rand.New(rand.NewSource(82))
	for range 500 {
		b := anyBook(r, 12)
		for _, date := range []int{0, r.Intn(50), 100000} {
			sum := 0
			for _, x := range b.Accounts {
				balance, e := account.BalanceOf(b, x.Name, date)
				sum += balance
				rows, f := account.Statement(b, x.Name, [2]int{r.Intn(date + 1), date})
				if e != api.OK || f != api.OK || len(rows) > 0 && rows[len(rows)-1].Balance != balance {
					t.Errorf("the balance %d, the statement %v, errors %d and %d", balance, rows, e, f)
				}
			}
			if sum != 0 {
				t.Errorf("the balances come to %d", sum)
			}
		}
		sum := 0
		for _, balance := range first(account.Balances(b)) {
			sum += balance
		}
		if sum != 0 {
			t.Errorf("all balances come to %d", sum)
		}
	}
}

// TestOpenIsBalance is of P8.13: what is open is the balance if nothing stands over, and never more than what was opened.
func TestOpenIsBalance(t *testing.T) {
	r := rand.New(rand.NewSource(83))
	none, some := 0, 0
	for range 2000 {
		b := anyBook(r, 12)
		name := anyName(r, b.Accounts)
		opened := make([]int, len(b.Entries))
		for i, e := range b.Entries {
			for _, x := range e.Lines {
				if x.Account == name {
					opened[i] += max(0, x.Amount)
				}
			}
		}
		sum := 0
		for _, x := range first(account.OpenItems(b, name)) {
			sum += x.Open
			if x.Open <= 0 || x.Open > opened[x.Entry] {
				t.Errorf("%d is open of %d", x.Open, opened[x.Entry])
			}
		}
		_, over := slowItems(b, name)
		if balance := first(account.BalanceOf(b, name, 100000)); sum != balance+over {
			t.Errorf("%d is open, %d stands over, and the balance is %d", sum, over, balance)
		}
		if over == 0 && sum > 0 {
			none++
		}
		if over > 0 {
			some++
		}
	}
	if none < 100 || some < 100 {
		t.Errorf("too few books: nothing stands over in %d, something in %d", none, some)
	}
}
