package account_test

import (
	"fmt"
	"math"
	"math/rand"
	"testing"

	"fiacre/account"
	"fiacre/api"
)

// TestReversed is of P8.5: the opposite amounts, another date, the same note.
func TestReversed(t *testing.T) {
	wanted := entry(13, line("cash", -600), line("vouchers", -500), line("owner", 501), line("ann", 400), line("office", 100), line("ann", 99))
	wanted.Note = "trip1"
	gives(t, "the entry of the examples", wanted)(account.Reversed(paid(), 13))
	odd := api.AccountEntry{Date: -7, Note: "a b\n", Lines: []api.AccountLine{line("", 0), line("x y", 1000000000), line("=", -1000000000)}}
	gives(t, "an entry that is not right", api.AccountEntry{Date: 0, Note: "a b\n", Lines: []api.AccountLine{line("", 0), line("x y", -1000000000), line("=", 1000000000)}})(account.Reversed(odd, 0))
	gives(t, "an entry without lines", api.AccountEntry{Date: 100000})(account.Reversed(api.AccountEntry{}, 100000))
	gives(t, "12 lines", 12)(len(first(account.Reversed(entry(0, twins(12)...), 5)).Lines), api.OK)
}

// wrongSizes is entries that are too large for Reversed and Netted.
func wrongSizes() map[string]api.AccountEntry {
	sizes := map[string]api.AccountEntry{"13 lines": entry(5, twins(13)...)}
	for _, amount := range []int{1000000001, -1000000001, math.MaxInt, math.MinInt} {
		sizes[fmt.Sprint("an amount of ", amount)] = entry(5, line("a", 1), line("b", amount))
	}
	return sizes
}

// sizeError is the error of an entry of wrongSizes.
func sizeError(e api.AccountEntry) api.Errno {
	if len(e.Lines) > 12 {
		return api.ErrLarge
	}
	return api.ErrRange
}

// TestReversedErrors is of P8.5: which error comes ahead of which.
func TestReversedErrors(t *testing.T) {
	for what, e := range wrongSizes() {
		for _, date := range []int{5, -1} {
			fails(t, "Reversed: "+what, sizeError(e))(account.Reversed(e, date))
		}
	}
	both := entry(5, twins(13)...)
	both.Lines[0].Amount = math.MaxInt
	fails(t, "too many lines ahead of their amounts", api.ErrLarge)(account.Reversed(both, 5))
	for _, date := range []int{-1, 100001, math.MinInt, math.MaxInt} {
		fails(t, "a date that is none", api.ErrRange)(account.Reversed(paid(), date))
	}
}

// TestNetted is of P8.5: each account once, in the order in which it is named first, and none that comes to 0.
func TestNetted(t *testing.T) {
	for _, x := range []struct {
		what   string
		l      []api.AccountEntry
		wanted api.AccountEntry
	}{
		{"one", []api.AccountEntry{paid()}, entry(12, line("cash", 600), line("vouchers", 500), line("owner", -501), line("ann", -499), line("office", -100))},
		{"two", []api.AccountEntry{paid(), move(5, "owner", "cash", 501)}, entry(5, line("cash", 1101), line("vouchers", 500), line("owner", -1002), line("ann", -499), line("office", -100))},
		{"what comes to 0", []api.AccountEntry{move(7, "a", "b", 5), move(9, "b", "c", 5)}, entry(9, line("a", -5), line("c", 5))},
		{"what comes to 0 and goes on", []api.AccountEntry{move(7, "a", "b", 5), move(8, "b", "a", 5), move(9, "b", "a", 1)}, entry(9, line("a", 1), line("b", -1))},
		{"named first at 0", []api.AccountEntry{entry(1, line("z", 0), line("y", 3)), move(2, "y", "z", 1)}, entry(2, line("z", 1), line("y", 2))},
		{"nothing", []api.AccountEntry{{Date: -3, Note: "a b"}}, entry(-3)},
		{"entries that are not right", []api.AccountEntry{entry(9, line("", 7)), entry(math.MinInt, line("a=b", 2))}, entry(math.MinInt, line("", 7), line("a=b", 2))},
		{"as much as there may be", []api.AccountEntry{move(1, "a", "b", 999999999), move(1, "a", "b", 1)}, entry(1, line("a", -1000000000), line("b", 1000000000))},
		{"too much on the way", []api.AccountEntry{move(1, "a", "b", 1000000000), move(1, "a", "b", 1000000000), move(1, "b", "a", 1000000000)}, entry(1, line("a", -1000000000), line("b", 1000000000))},
		{"100 entries", full(100).Entries, entry(99, line("ann", -100), line("cash", 100))},
		{"12 lines", apart(6), entry(0, netOf(apart(6))...)},
	} {
		gives(t, x.what, x.wanted)(account.Netted(x.l, "n"))
	}
}

// apart is entries of two accounts each, which no other one names.
func apart(entries int) []api.AccountEntry {
	var l []api.AccountEntry
	for i := range entries {
		l = append(l, move(0, fmt.Sprint("from", i), fmt.Sprint("to", i), i+1))
	}
	return l
}

// netOf is the lines of entries that name no account twice.
func netOf(l []api.AccountEntry) []api.AccountLine {
	var lines []api.AccountLine
	for _, e := range l {
		lines = append(lines, e.Lines...)
	}
	return lines
}

// TestNettedErrors is of P8.5: which error comes ahead of which.
func TestNettedErrors(t *testing.T) {
	for _, note := range []string{"n", ""} {
		fails(t, "no entries", api.ErrShape)(account.Netted(nil, note))
		fails(t, "101 entries", api.ErrLarge)(account.Netted(full(101).Entries, note))
		for what, e := range wrongSizes() {
			fails(t, what, sizeError(e))(account.Netted([]api.AccountEntry{e}, note))
			fails(t, what+" behind another one", sizeError(e))(account.Netted([]api.AccountEntry{paid(), e}, note))
			for what, later := range wrongSizes() {
				fails(t, "one by one: "+what, sizeError(e))(account.Netted([]api.AccountEntry{e, later}, note))
			}
			many := full(101).Entries
			many[0] = e
			fails(t, "many entries ahead of "+what, api.ErrLarge)(account.Netted(many, note))
		}
	}
	great := []api.AccountEntry{move(1, "a", "b", 1000000000), move(1, "a", "c", 1)}
	for _, note := range []string{"", "a b", "7", "abcdefghijklm"} {
		fails(t, "a note that is no name", api.ErrName)(account.Netted([]api.AccountEntry{paid()}, note))
		fails(t, "a note ahead of a great amount", api.ErrName)(account.Netted(great, note))
	}
	fails(t, "a great amount below 0", api.ErrLarge)(account.Netted(great, "n"))
	fails(t, "a great amount", api.ErrLarge)(account.Netted([]api.AccountEntry{move(1, "a", "b", 1000000000), move(1, "c", "b", 1)}, "n"))
	fails(t, "14 lines", api.ErrLarge)(account.Netted(apart(7), "n"))
	fails(t, "13 lines", api.ErrLarge)(account.Netted(append(apart(6), entry(0, line("x", 1))), "n"))
}

// TestNettedLikeSlow is of P8.5: each account has the sum of all its amounts.
func TestNettedLikeSlow(t *testing.T) {
	r := rand.New(rand.NewSource(89))
	done := 0
	for range 1000 {
		b := anyBook(r, 6)
		e, code := account.Netted(b.Entries, "n")
		if code != api.OK {
			continue
		}
		done++
		gives(t, "the date", b.Entries[len(b.Entries)-1].Date)(e.Date, code)
		for _, x := range b.Accounts {
			if got := slowBalance(book(e), x.Name, 100000); got != slowBalance(b, x.Name, 100000) {
				t.Errorf("%s has %d in %v", x.Name, got, e)
			}
		}
		for i, x := range e.Lines {
			for _, y := range e.Lines[:i] {
				if x.Account == y.Account || x.Amount == 0 {
					t.Errorf("the line %v in %v", x, e)
				}
			}
		}
	}
	if done < 300 {
		t.Errorf("too few entries: %d", done)
	}
}

// TestUndone is of P8.10: an entry and its reversed one have no lines together, and change no balance.
func TestUndone(t *testing.T) {
	r := rand.New(rand.NewSource(90))
	for range 1000 {
		b := anyBook(r, 8)
		b.Closed = 0
		date := r.Intn(100)
		e := anyEntry(r, b.Accounts, date)
		undone, code := account.Reversed(e, date)
		gives(t, "Netted", api.AccountEntry{Date: date, Note: "n"})(account.Netted([]api.AccountEntry{e, undone}, "n"))
		gives(t, "Netted the other way round", api.AccountEntry{Date: date, Note: "n"})(account.Netted([]api.AccountEntry{undone, e}, "n"))
		before := first(account.Balances(b))
		on := r.Intn(100)
		name := anyName(r, b.Accounts)
		balance := first(account.BalanceOf(b, name, on))
		b, f := account.Post(b, e)
		b, g := account.Post(b, undone)
		if code != api.OK || f != api.OK || g != api.OK {
			t.Errorf("the errors %d, %d, %d", code, f, g)
		}
		gives(t, "Balances", before)(account.Balances(b))
		gives(t, "BalanceOf", balance)(account.BalanceOf(b, name, on))
	}
}
