package account_test

import (
	"fmt"
	"math"
	"math/rand"
	"slices"
	"strings"
	"sync"
	"testing"

	"fiacre/account"
	"fiacre/api"
)

// odd returns a number that is likely to be at an end of something.
func odd(r *rand.Rand) int {
	ends := []int{math.MinInt, -1000000001, -1000000000, -2, -1, 0, 1, 2, 4, 12, 13, 29, 30, 3332, 3333, 3999, 4000, 4001, 100000, 100001, 1000000, 1000001, 1000000000, 1000000001, 1000000000000000, 1000000000000001, math.MaxInt}
	return ends[r.Intn(len(ends))]
}

// oddly returns a number, or now and then an odd one.
func oddly(r *rand.Rand, n int) int {
	if r.Intn(12) == 0 {
		return odd(r)
	}
	return n
}

func oddName(r *rand.Rand) string {
	return []string{"a0", "a1", "a2", "cash", "", "7", "\xff\n", "a b", "abcdefghijklm"}[r.Intn(9)]
}

// oddlyNamed returns a name, or now and then an odd one.
func oddlyNamed(r *rand.Rand, name string) string {
	if r.Intn(12) == 0 {
		return oddName(r)
	}
	return name
}

// spoiltEntry returns an entry of which something is changed now and then.
func spoiltEntry(r *rand.Rand, e api.AccountEntry) api.AccountEntry {
	e = api.AccountEntry{Date: oddly(r, e.Date), Note: oddlyNamed(r, e.Note), Lines: slices.Clone(e.Lines)}
	for i := range e.Lines {
		if r.Intn(8) == 0 {
			e.Lines[i] = line(oddlyNamed(r, e.Lines[i].Account), oddly(r, e.Lines[i].Amount))
		}
	}
	if r.Intn(20) == 0 {
		e.Lines = slices.Repeat(e.Lines, r.Intn(9))
	}
	return e
}

// spoiltBook returns a book of which something is changed now and then.
func spoiltBook(r *rand.Rand, b api.AccountBook) api.AccountBook {
	b = api.AccountBook{Accounts: slices.Clone(b.Accounts), Entries: slices.Clone(b.Entries), Closed: oddly(r, b.Closed)}
	if r.Intn(8) == 0 {
		b.Accounts[r.Intn(len(b.Accounts))] = named(oddName(r), oddly(r, 0))
	}
	if len(b.Entries) > 0 && r.Intn(3) == 0 {
		i := r.Intn(len(b.Entries))
		b.Entries[i] = spoiltEntry(r, b.Entries[i])
	}
	if r.Intn(20) == 0 {
		b.Accounts, b.Entries = slices.Repeat(b.Accounts, r.Intn(3)), slices.Repeat(b.Entries, r.Intn(20))
	}
	return b
}

// oddRule returns a rule that is often right for accounts a0, a1 and so on.
func oddRule(r *rand.Rand) api.AccountRule {
	of := func(i int) string { return oddlyNamed(r, fmt.Sprint("a", i)) }
	return api.AccountRule{Owner: of(0), Driver: of(1), Office: of(2), Cash: of(3), Vouchers: of(4), Shares: [3]int{oddly(r, 1), oddly(r, 0), oddly(r, 3)}}
}

func oddTrip(r *rand.Rand) api.AccountTrip {
	return api.AccountTrip{Date: oddly(r, 5), Note: oddlyNamed(r, "n"), Fare: oddly(r, 700), Tip: oddly(r, 9), Voucher: oddly(r, 600)}
}

func oddComplaint(r *rand.Rand) api.AccountComplaint {
	return api.AccountComplaint{Date: oddly(r, 5), Note: oddlyNamed(r, "n"), Paid: oddly(r, 500), Law: api.Range{Lo: oddly(r, 300), Hi: oddly(r, 400)}, Slack: oddly(r, 50)}
}

// TestNoPanic is of P1: with whatever arguments every function ends, and beside an error all other results are zero values.
func TestNoPanic(t *testing.T) {
	r := rand.New(rand.NewSource(93))
	for range 10000 {
		right := anyBook(r, 6)
		b, e := spoiltBook(r, right), spoiltEntry(r, anyEntry(r, right.Accounts, r.Intn(200)))
		name, rule, c := oddlyNamed(r, "a0"), oddRule(r), oddComplaint(r)
		ends := zero(t)
		ends(account.Post(b, e))
		ends(account.BalanceOf(b, name, oddly(r, 20)))
		ends(account.Balances(b))
		ends(account.Statement(b, name, [2]int{oddly(r, 5), oddly(r, 30)}))
		ends(account.OpenItems(b, name))
		ends(account.Close(b, oddly(r, 5)))
		ends(account.ClosingOf(b, oddly(r, 2), name))
		ends(account.Split(odd(r), []int{odd(r), oddly(r, 5), oddly(r, 7)}))
		ends(account.Split(oddly(r, 5), []int{oddly(r, 7), 0, oddly(r, 5)}))
		ends(account.FareEntry(b.Accounts, rule, oddTrip(r)))
		ends(account.Reversed(e, oddly(r, 5)))
		ends(account.Netted(b.Entries, oddlyNamed(r, "n")))
		ends(decide(c))
		ends(account.Refund(b.Accounts, rule, c))
		ends(account.ParseEntry(scribbled(r, "12 n a=10 b=-10")))
		account.CheckAccounts(b.Accounts)
		account.CheckEntry(b.Accounts, e)
		account.CheckBook(b)
		account.CheckRule(b.Accounts, rule)
		account.FormatEntry(e)
	}
}

// zero returns a function that takes a result and its error, and wants nothing beside an error.
func zero(t *testing.T) func(got any, e api.Errno) {
	t.Helper()
	return func(got any, e api.Errno) {
		t.Helper()
		if e < api.OK || e > api.ErrBalance || e != api.OK && !isNothing(got) {
			t.Errorf("beside the error %d: %v", e, got)
		}
	}
}

// roomy returns a list of the same elements with room behind it.
func roomy[T any](list []T) []T { return append(make([]T, 0, len(list)+9), list...) }

// roomyEntry returns an entry with room behind its lines.
func roomyEntry(e api.AccountEntry) api.AccountEntry {
	e.Lines = roomy(e.Lines)
	return e
}

// roomyBook returns a book with room behind all its lists.
func roomyBook(b api.AccountBook) api.AccountBook {
	b.Accounts, b.Entries = roomy(b.Accounts), roomy(b.Entries)
	for i, e := range b.Entries {
		b.Entries[i] = roomyEntry(e)
	}
	return b
}

// behind returns a list, and what stands in the room behind it.
func behind[T any](list []T) string { return fmt.Sprint(list[:cap(list)]) }

// spoil changes all that a list has, and what is in the room behind it.
func spoil[T any](list []T, odd T) {
	for i := range list {
		list[i] = odd
	}
	_ = append(list, odd)
}

// spoilBook changes all that a book has, one list after the other, and wants the other lists to stay as they are.
func spoilBook(t *testing.T, b api.AccountBook) {
	t.Helper()
	spoil(b.Accounts, named("spoilt", 77))
	for i, e := range b.Entries {
		later := fmt.Sprint(b.Entries[i+1:])
		spoil(e.Lines, line("spoilt", 77))
		if got := fmt.Sprint(b.Entries[i+1:]); got != later {
			t.Errorf("the lines of an entry change %s to %s", later, got)
		}
	}
	spoil(b.Entries, api.AccountEntry{})
}

// TestMemory is of R3: arguments stay as they are, and results share no memory with them.
func TestMemory(t *testing.T) {
	b := roomyBook(book(paid(), move(12, "ann", "cash", 5), move(14, "cash", "vouchers", 7)))
	e, shares := roomyEntry(move(13, "owner", "office", 7)), roomy([]int{50, 40, 10})
	all := func() string {
		s := behind(b.Accounts) + behind(b.Entries) + behind(e.Lines) + behind(shares)
		for _, x := range b.Entries {
			s += behind(x.Lines)
		}
		return s
	}
	before := all()
	for _, date := range []int{0, 13, 5000} {
		e.Date = date
		spoilBook(t, first(account.Post(b, e)))
	}
	spoilBook(t, first(account.Close(b, 0)))
	spoil(first(account.Balances(b)), 77)
	spoil(first(account.Statement(b, "ann", [2]int{0, 100})), api.AccountRow{})
	spoil(first(account.OpenItems(b, "vouchers")), api.AccountItem{})
	spoil(first(account.ClosingOf(b, 0, "owner")).Lines, line("spoilt", 77))
	spoil(first(account.Split(1001, shares)), 77)
	spoil(first(account.FareEntry(b.Accounts, usual(), trip())).Lines, line("spoilt", 77))
	spoil(first(account.Reversed(e, 5)).Lines, line("spoilt", 77))
	spoil(first(account.Netted(b.Entries, "n")).Lines, line("spoilt", 77))
	spoil(first(account.Netted(b.Entries[2:], "n")).Lines, line("spoilt", 77))
	spoil(first(account.Refund(b.Accounts, usual(), complaint())).Lines, line("spoilt", 77))
	account.CheckAccounts(b.Accounts)
	account.CheckEntry(b.Accounts, e)
	account.CheckBook(b)
	account.CheckRule(b.Accounts, usual())
	account.BalanceOf(b, "ann", 13)
	account.FormatEntry(e)
	if after := all(); after != before {
		t.Errorf("an argument was changed from %s to %s", before, after)
	}
}

// TestNothing is of R5: a nil list and an empty one are the same.
func TestNothing(t *testing.T) {
	for _, l := range [][]api.AccountEntry{nil, {}} {
		b := book(l...)
		at(t, "CheckBook", 0, api.OK)(account.CheckBook(b))
		gives(t, "Post", book(paid()))(account.Post(b, paid()))
		gives(t, "BalanceOf", 0)(account.BalanceOf(b, "ann", 5))
		gives(t, "Statement", "[]")(account.Statement(b, "ann", [2]int{0, 5}))
		gives(t, "OpenItems", "[]")(account.OpenItems(b, "ann"))
		fails(t, "ClosingOf", api.ErrNone)(account.ClosingOf(b, 0, "ann"))
		fails(t, "Netted", api.ErrShape)(account.Netted(l, "n"))
	}
	for _, l := range [][]api.AccountName{nil, {}} {
		at(t, "CheckAccounts", 0, api.ErrShape)(account.CheckAccounts(l))
		at(t, "CheckBook", 0, api.ErrShape)(account.CheckBook(api.AccountBook{Accounts: l}))
	}
	for _, lines := range [][]api.AccountLine{nil, {}} {
		at(t, "CheckEntry", 0, api.ErrShape)(account.CheckEntry(names(), entry(0, lines...)))
		gives(t, "Reversed", entry(7))(account.Reversed(entry(0, lines...), 7))
		gives(t, "Netted", entry(0))(account.Netted([]api.AccountEntry{entry(0, lines...)}, "n"))
	}
}

// TestLarge is of P1: also long texts and lists are soon done with.
func TestLarge(t *testing.T) {
	many := 1 << 20
	at(t, "CheckAccounts of many", 0, api.ErrLarge)(account.CheckAccounts(make([]api.AccountName, many)))
	at(t, "CheckBook of many accounts", 0, api.ErrLarge)(account.CheckBook(api.AccountBook{Accounts: make([]api.AccountName, many), Entries: full(100).Entries}))
	at(t, "CheckBook of many entries", 0, api.ErrLarge)(account.CheckBook(book(make([]api.AccountEntry, many)...)))
	at(t, "CheckEntry of many lines", 0, api.ErrLarge)(account.CheckEntry(names(), entry(0, make([]api.AccountLine, many)...)))
	fails(t, "Split of many shares", api.ErrLarge)(account.Split(5, make([]int, many)))
	fails(t, "Reversed of many lines", api.ErrLarge)(account.Reversed(entry(0, make([]api.AccountLine, many)...), 0))
	fails(t, "Netted of many entries", api.ErrLarge)(account.Netted(make([]api.AccountEntry, many), "n"))
	fails(t, "ParseEntry of many words", api.ErrSyntax)(account.ParseEntry("1 n " + strings.Repeat("a=5 ", many)))
	fails(t, "ParseEntry of a long number", api.ErrSyntax)(account.ParseEntry(strings.Repeat("1", many) + " n"))
	lines := first(account.ParseEntry("1 n" + strings.Repeat(" a=5", many))).Lines
	gives(t, "ParseEntry of many lines", many)(len(lines), api.OK)
	gives(t, "FormatEntry of many lines", 3+4*many)(len(account.FormatEntry(entry(1, lines...))), api.OK)
}

// TestAtOnce is of R4: results are the same, whatever else goes on.
func TestAtOnce(t *testing.T) {
	all := func() string {
		b := book(paid(), move(20, "cash", "owner", 501))
		return fmt.Sprint(first(account.Post(b, move(13, "ann", "cash", 1))), first(account.Balances(b)), first(account.ClosingOf(b, 0, "owner")), first(account.Netted(b.Entries, "n")), first(account.Split(1001, []int{1, 1, 1, 5})))
	}
	wanted := all()
	var calls sync.WaitGroup
	for range 20 {
		calls.Go(func() {
			if got := all(); got != wanted {
				t.Errorf("first %s, and then %s", wanted, got)
			}
		})
	}
	calls.Wait()
}
