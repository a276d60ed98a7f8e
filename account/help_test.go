package account_test

import (
	"fmt"
	"math/big"
	"math/rand"
	"reflect"
	"testing"

	"fiacre/account"
	"fiacre/api"
)

// gives returns a function that takes a result and its error, and compares the result with what is wanted. A nil list and an empty one are the same.
func gives(t *testing.T, what string, wanted any) func(got any, e api.Errno) {
	t.Helper()
	return func(got any, e api.Errno) {
		t.Helper()
		if fmt.Sprint(got) != fmt.Sprint(wanted) || e != api.OK {
			t.Errorf("%s: %v, error %d; want %v", what, got, e, wanted)
		}
	}
}

// fails returns a function that takes a result and its error, and wants this error, and nothing beside it.
func fails(t *testing.T, what string, wanted api.Errno) func(got any, e api.Errno) {
	t.Helper()
	return func(got any, e api.Errno) {
		t.Helper()
		if !isNothing(got) || e != wanted {
			t.Errorf("%s: %v, error %d; want the error %d and nothing beside it", what, got, e, wanted)
		}
	}
}

// at returns a function that takes a number and an error, and wants these.
func at(t *testing.T, what string, number int, wanted api.Errno) func(got int, e api.Errno) {
	t.Helper()
	return func(got int, e api.Errno) {
		t.Helper()
		if got != number || e != wanted {
			t.Errorf("%s: the error %d at %d; want %d at %d", what, e, got, wanted, number)
		}
	}
}

func isNothing(x any) bool {
	v := reflect.ValueOf(x)
	if v.Kind() == reflect.Slice {
		return v.Len() == 0
	}
	if v.Kind() != reflect.Struct {
		return v.IsZero()
	}
	for i := range v.NumField() {
		if !isNothing(v.Field(i).Interface()) {
			return false
		}
	}
	return true
}

func first[T any](x T, _ api.Errno) T { return x }

// decision is what Decide returns, in one value.
type decision struct{ Refund, Answer int }

func decide(c api.AccountComplaint) (decision, api.Errno) {
	refund, answer, e := account.Decide(c)
	return decision{refund, answer}, e
}

func named(name string, kind int) api.AccountName { return api.AccountName{Name: name, Kind: kind} }

// names is the accounts of the document's examples.
func names() []api.AccountName {
	return []api.AccountName{named("cash", api.AccountAsset), named("vouchers", api.AccountAsset), named("ann", api.AccountDebt), named("owner", api.AccountDebt), named("office", api.AccountIncome)}
}

// usual is the rule of the document's examples.
func usual() api.AccountRule {
	return api.AccountRule{Owner: "owner", Driver: "ann", Office: "office", Shares: [3]int{50, 40, 10}, Cash: "cash", Vouchers: "vouchers"}
}

// line is a line of an entry.
func line(name string, amount int) api.AccountLine {
	return api.AccountLine{Account: name, Amount: amount}
}

// entry is an entry of these lines.
func entry(date int, lines ...api.AccountLine) api.AccountEntry {
	return api.AccountEntry{Date: date, Note: "n", Lines: lines}
}

// move is an entry that puts an amount to one account and takes it from another one.
func move(date int, from, to string, amount int) api.AccountEntry {
	return entry(date, line(from, -amount), line(to, amount))
}

// paid is the entry of the trip of the document's examples.
func paid() api.AccountEntry {
	e := entry(12, line("cash", 600), line("vouchers", 500), line("owner", -501), line("ann", -400), line("office", -100), line("ann", -99))
	e.Note = "trip1"
	return e
}

// book is a book of the document's accounts and these entries.
func book(entries ...api.AccountEntry) api.AccountBook {
	return api.AccountBook{Accounts: names(), Entries: entries}
}

// full is a book of so many entries, one a day.
func full(many int) api.AccountBook {
	b := book()
	for date := range many {
		b.Entries = append(b.Entries, move(date, "ann", "cash", 1))
	}
	return b
}

// many returns so many accounts.
func many(accounts int) []api.AccountName {
	var l []api.AccountName
	for i := range accounts {
		l = append(l, api.AccountName{Name: fmt.Sprint("a", i), Kind: i % api.AccountKinds})
	}
	return l
}

// anyAmount returns a random amount that is not 0; it is small, or one of a few that come again, or great.
func anyAmount(r *rand.Rand) int {
	amount := []int{1 + r.Intn(9), 5, 1 + r.Intn(10000), 1 + r.Intn(90000000), 500000000}[r.Intn(5)]
	return amount * (1 - 2*r.Intn(2))
}

// anyEntry returns a random right entry.
func anyEntry(r *rand.Rand, l []api.AccountName, date int) api.AccountEntry {
	for {
		e := entry(date)
		left := 0
		for range 1 + r.Intn([]int{1, 3, 11}[r.Intn(3)]) {
			amount := anyAmount(r)
			e.Lines = append(e.Lines, line(l[r.Intn(len(l))].Name, amount))
			left -= amount
		}
		if left != 0 && left >= -1000000000 && left <= 1000000000 {
			e.Lines = append(e.Lines, line(l[r.Intn(len(l))].Name, left))
			return e
		}
	}
}

// anyBook returns a random right book of at most so many entries, many of them of the same dates.
func anyBook(r *rand.Rand, most int) api.AccountBook {
	b := api.AccountBook{Accounts: many(1 + r.Intn([]int{2, 5, 20}[r.Intn(3)])), Closed: r.Intn(4)}
	r.Shuffle(len(b.Accounts), func(i, j int) { b.Accounts[i], b.Accounts[j] = b.Accounts[j], b.Accounts[i] })
	date := r.Intn(40)
	for range r.Intn(most + 1) {
		date += r.Intn(3) * r.Intn(8)
		b.Entries = append(b.Entries, anyEntry(r, b.Accounts, date))
	}
	return b
}

// anyName returns one of the names of accounts.
func anyName(r *rand.Rand, l []api.AccountName) string { return l[r.Intn(len(l))].Name }

// slowBalance is the definition of a balance: all amounts that entries up to a date put to an account.
func slowBalance(b api.AccountBook, name string, date int) int {
	balance := 0
	for _, e := range b.Entries {
		for _, x := range e.Lines {
			if e.Date <= date && x.Account == name {
				balance += x.Amount
			}
		}
	}
	return balance
}

// slowRows is the definition of a statement.
func slowRows(b api.AccountBook, name string, days [2]int) []api.AccountRow {
	var rows []api.AccountRow
	for i, e := range b.Entries {
		row := api.AccountRow{Entry: i, Balance: slowBalance(api.AccountBook{Entries: b.Entries[:i+1]}, name, e.Date)}
		named := false
		for _, x := range e.Lines {
			if x.Account == name {
				named = true
				row.Amount += x.Amount
			}
		}
		if named && e.Date >= days[0] && e.Date <= days[1] {
			rows = append(rows, row)
		}
	}
	return rows
}

// slowItems is the definition of open items, item by item, with what stands over behind all entries.
func slowItems(b api.AccountBook, name string) ([]api.AccountItem, int) {
	var queue []api.AccountItem
	over := 0
	for i, e := range b.Entries {
		for _, x := range e.Lines {
			if x.Account != name {
				continue
			}
			if x.Amount > 0 {
				queue = append(queue, api.AccountItem{Entry: i, Open: x.Amount})
			} else {
				over -= x.Amount
			}
			for over > 0 && len(queue) > 0 {
				settled := min(over, queue[0].Open)
				over -= settled
				queue[0].Open -= settled
				if queue[0].Open == 0 {
					queue = queue[1:]
				}
			}
		}
	}
	var items []api.AccountItem
	for _, x := range queue {
		if n := len(items); n > 0 && items[n-1].Entry == x.Entry {
			items[n-1].Open += x.Open
		} else {
			items = append(items, x)
		}
	}
	return items, over
}

// slowSplit is the definition of a split, with fractions: each part rounded down, and cent by cent one more for the share with the greatest remainder that has none yet.
func slowSplit(amount int, shares []int) []int {
	if amount < 0 {
		parts := slowSplit(-amount, shares)
		for i := range parts {
			parts[i] = -parts[i]
		}
		return parts
	}
	all := 0
	for _, share := range shares {
		all += share
	}
	parts, rests := make([]int, len(shares)), make([]*big.Rat, len(shares))
	left := amount
	for i, share := range shares {
		exact := new(big.Rat).Mul(big.NewRat(int64(amount), int64(all)), big.NewRat(int64(share), 1))
		whole := new(big.Int).Quo(exact.Num(), exact.Denom())
		parts[i] = int(whole.Int64())
		rests[i] = exact.Sub(exact, new(big.Rat).SetInt(whole))
		left -= parts[i]
	}
	for ; left > 0; left-- {
		greatest := 0
		for i := range rests {
			if rests[i].Cmp(rests[greatest]) > 0 {
				greatest = i
			}
		}
		parts[greatest]++
		rests[greatest] = big.NewRat(-1, 1)
	}
	return parts
}
