package account_test

import (
	"math"
	"slices"
	"testing"

	"fiacre/account"
	"fiacre/api"
)

// wrongAccounts is accounts with an error, and the number of the account that has it.
type wrongAccounts struct {
	what   string
	l      []api.AccountName
	number int
	e      api.Errno
}

func allWrongAccounts() []wrongAccounts {
	with := func(number int, x api.AccountName) []api.AccountName {
		l := names()
		l[number] = x
		return l
	}
	return []wrongAccounts{
		{"no accounts", nil, 0, api.ErrShape},
		{"21 accounts", many(21), 0, api.ErrLarge},
		{"21 accounts without names", make([]api.AccountName, 21), 0, api.ErrLarge},
		{"no name", with(0, named("", 0)), 0, api.ErrName},
		{"a name that is none", with(3, named("7", 0)), 3, api.ErrName},
		{"a long name", with(4, named("abcdefghijklm", 0)), 4, api.ErrName},
		{"a name twice", with(4, named("cash", 2)), 4, api.ErrExists},
		{"a name twice, one behind the other", with(1, named("cash", 0)), 1, api.ErrExists},
		{"a kind below 0", with(2, named("ann", -1)), 2, api.ErrKind},
		{"a kind behind the last one", with(1, named("vouchers", api.AccountKinds)), 1, api.ErrKind},
		{"a great kind", with(0, named("cash", math.MaxInt)), 0, api.ErrKind},

		{"a name ahead of its kind", with(3, named("-", 9)), 3, api.ErrName},
		{"a name twice ahead of its kind", with(3, named("ann", 9)), 3, api.ErrExists},
		{"one by one", append(with(1, named("vouchers", 9)), named("", 0), named("ann", 0)), 1, api.ErrKind},
	}
}

// TestCheckAccounts is of P8.1: each error of accounts, which comes ahead of which, and its number.
func TestCheckAccounts(t *testing.T) {
	for _, l := range [][]api.AccountName{names(), many(1), many(20), {named("a", 0), named("A", 3)}, {named("abcdefghij-2", 2)}} {
		at(t, "right accounts", 0, api.OK)(account.CheckAccounts(l))
	}
	for _, x := range allWrongAccounts() {
		at(t, x.what, x.number, x.e)(account.CheckAccounts(x.l))
		// Ahead of all errors of further arguments, and without the number of the account.
		at(t, "CheckEntry: "+x.what, 0, x.e)(account.CheckEntry(x.l, api.AccountEntry{Date: -1}))
		failsByBook(t, x.what, 0, x.e, api.AccountBook{Accounts: x.l, Entries: []api.AccountEntry{{Date: -1}}, Closed: -1})
		if e := account.CheckRule(x.l, api.AccountRule{}); e != x.e {
			t.Errorf("CheckRule: %s: error %d, want %d", x.what, e, x.e)
		}
		failsByRule(t, x.what, x.e, x.l, usual())
	}
}

// failsByBook wants of all functions of a book its error, ahead of all errors of further arguments, and of CheckBook the number of the entry.
func failsByBook(t *testing.T, what string, number int, e api.Errno, b api.AccountBook) {
	t.Helper()
	at(t, "CheckBook: "+what, number, e)(account.CheckBook(b))
	for _, x := range []api.AccountEntry{move(3000, "ann", "cash", 1), {}} {
		fails(t, "Post: "+what, e)(account.Post(b, x))
	}
	for _, name := range []string{"cash", "nobody"} {
		for _, date := range []int{5, -1} {
			fails(t, "BalanceOf: "+what, e)(account.BalanceOf(b, name, date))
			fails(t, "Statement: "+what, e)(account.Statement(b, name, [2]int{date, 9}))
			fails(t, "ClosingOf: "+what, e)(account.ClosingOf(b, date, name))
			fails(t, "Close: "+what, e)(account.Close(b, date))
		}
		fails(t, "OpenItems: "+what, e)(account.OpenItems(b, name))
	}
	fails(t, "Balances: "+what, e)(account.Balances(b))
}

// wrongEntry is an entry of the document's accounts with an error, and the number of the line that has it.
type wrongEntry struct {
	what   string
	change func(e *api.AccountEntry)
	number int
	e      api.Errno
}

func (x wrongEntry) entry() api.AccountEntry {
	e := paid()
	x.change(&e)
	return e
}

func allWrongEntries() []wrongEntry {
	return []wrongEntry{
		{"a date below 0", func(e *api.AccountEntry) { e.Date = -1 }, 0, api.ErrRange},
		{"a date behind the last one", func(e *api.AccountEntry) { e.Date = 100001 }, 0, api.ErrRange},
		{"no note", func(e *api.AccountEntry) { e.Note = "" }, 0, api.ErrName},
		{"a note that is no name", func(e *api.AccountEntry) { e.Note = "a b" }, 0, api.ErrName},
		{"no lines", func(e *api.AccountEntry) { e.Lines = nil }, 0, api.ErrShape},
		{"one line", func(e *api.AccountEntry) { e.Lines = e.Lines[:1] }, 0, api.ErrShape},
		{"13 lines", func(e *api.AccountEntry) { e.Lines = twins(13) }, 0, api.ErrLarge},
		{"no account of this name", func(e *api.AccountEntry) { e.Lines[4].Account = "bob" }, 4, api.ErrMissing},
		{"no name of an account", func(e *api.AccountEntry) { e.Lines[0].Account = "" }, 0, api.ErrMissing},
		{"another letter", func(e *api.AccountEntry) { e.Lines[5].Account = "Ann" }, 5, api.ErrMissing},
		{"an amount of 0", func(e *api.AccountEntry) { e.Lines[1].Amount = 0 }, 1, api.ErrZero},
		{"a great amount", func(e *api.AccountEntry) { e.Lines[3].Amount = 1000000001 }, 3, api.ErrRange},
		{"a great amount below 0", func(e *api.AccountEntry) { e.Lines[2].Amount = -1000000001 }, 2, api.ErrRange},
		{"the greatest amount of all", func(e *api.AccountEntry) { e.Lines[5].Amount = math.MaxInt }, 5, api.ErrRange},
		{"the least amount of all", func(e *api.AccountEntry) { e.Lines[5].Amount = math.MinInt }, 5, api.ErrRange},
		{"a cent too much", func(e *api.AccountEntry) { e.Lines[5].Amount++ }, 0, api.ErrBalance},
		{"a cent too little", func(e *api.AccountEntry) { e.Lines[0].Amount-- }, 0, api.ErrBalance},
		{"the first lines balance", func(e *api.AccountEntry) { e.Lines = append(e.Lines, line("cash", 1)) }, 0, api.ErrBalance},

		{"the date ahead of the note", func(e *api.AccountEntry) { e.Date, e.Note = -1, "" }, 0, api.ErrRange},
		{"the note ahead of the lines", func(e *api.AccountEntry) { e.Note, e.Lines = "", nil }, 0, api.ErrName},
		{"too few lines ahead of their errors", func(e *api.AccountEntry) { e.Lines = []api.AccountLine{{}} }, 0, api.ErrShape},
		{"too many lines ahead of their errors", func(e *api.AccountEntry) { e.Lines = make([]api.AccountLine, 13) }, 0, api.ErrLarge},
		{"the account ahead of the amount", func(e *api.AccountEntry) { e.Lines[2] = line("", 0) }, 2, api.ErrMissing},
		{"the account ahead of a great amount", func(e *api.AccountEntry) { e.Lines[2] = line("", 1000000001) }, 2, api.ErrMissing},
		{"one by one", func(e *api.AccountEntry) { e.Lines[2].Amount, e.Lines[3] = 1000000001, line("", 0) }, 2, api.ErrRange},
		{"a zero ahead of a later name", func(e *api.AccountEntry) { e.Lines[2].Amount, e.Lines[3].Account = 0, "" }, 2, api.ErrZero},
		{"lines ahead of the balance", func(e *api.AccountEntry) { e.Lines[0].Amount, e.Lines[5].Amount = 601, 0 }, 5, api.ErrZero},
	}
}

// twins is so many lines, which balance if they are even.
func twins(lines int) []api.AccountLine {
	return slices.Repeat([]api.AccountLine{line("ann", 7), line("cash", -7)}, lines/2+1)[:lines]
}

// TestCheckEntry is of P8.1: each error of an entry, which comes ahead of which, and the number of the line.
func TestCheckEntry(t *testing.T) {
	for _, e := range []api.AccountEntry{
		paid(),
		entry(0, twins(2)...),
		entry(100000, twins(12)...),
		entry(5, line("ann", 5), line("ann", -5)),
		move(7, "cash", "ann", 1000000000),
		{Date: 1, Note: "abcdefghij-2", Lines: twins(4)},
	} {
		at(t, "a right entry", 0, api.OK)(account.CheckEntry(names(), e))
	}
	for _, x := range allWrongEntries() {
		at(t, x.what, x.number, x.e)(account.CheckEntry(names(), x.entry()))
		fails(t, "Post: "+x.what, x.e)(account.Post(book(paid()), x.entry()))
		// Ahead of a closed month, and of a book that is full.
		closed := full(100)
		closed.Closed = 4000
		fails(t, "Post into a closed month: "+x.what, x.e)(account.Post(closed, x.entry()))
	}
}

// TestCheckBook is of P8.2: each error of a book, which comes ahead of which, and the number of the entry.
func TestCheckBook(t *testing.T) {
	for _, b := range []api.AccountBook{book(), book(paid()), book(paid(), paid()), full(100), {Accounts: names(), Closed: 4000}} {
		at(t, "a right book", 0, api.OK)(account.CheckBook(b))
	}
	closed := book(paid())
	closed.Closed = 1
	at(t, "an entry of a closed month", 0, api.OK)(account.CheckBook(closed))
	for _, x := range allWrongEntries() {
		// The number is that of the entry, and not that of the line.
		failsByBook(t, x.what, 0, x.e, book(x.entry()))
		failsByBook(t, x.what, 2, x.e, book(move(1, "ann", "cash", 5), paid(), x.entry(), entry(0)))
	}
	last := full(100)
	last.Entries[99] = entry(99)
	for _, x := range []struct {
		what   string
		b      api.AccountBook
		number int
		e      api.Errno
	}{
		{"101 entries", full(101), 0, api.ErrLarge},
		{"101 entries ahead of their errors", book(make([]api.AccountEntry, 101)...), 0, api.ErrLarge},
		{"a date ahead of the one before", book(paid(), move(13, "ann", "cash", 1), paid()), 2, api.ErrOrder},
		{"descending by a day", book(paid(), move(11, "ann", "cash", 1)), 1, api.ErrOrder},
		{"the entry ahead of its order", book(paid(), entry(11)), 1, api.ErrShape},
		{"one by one", book(paid(), move(11, "ann", "cash", 1), entry(0)), 1, api.ErrOrder},
		{"the last one", last, 99, api.ErrShape},
		{"closed months below 0", api.AccountBook{Accounts: names(), Closed: -1}, 0, api.ErrRange},
		{"too many closed months", api.AccountBook{Accounts: names(), Closed: 4001}, 0, api.ErrRange},
		{"closed months behind entries", api.AccountBook{Accounts: names(), Entries: full(3).Entries, Closed: math.MinInt}, 0, api.ErrRange},
		{"entries ahead of closed months", api.AccountBook{Accounts: names(), Entries: []api.AccountEntry{paid(), {}}, Closed: -1}, 1, api.ErrName},
	} {
		failsByBook(t, x.what, x.number, x.e, x.b)
	}
}
