package account

import (
	"slices"
	"sort"

	"fiacre/api"
)

// Post returns a book with an entry more.
func Post(b api.AccountBook, e api.AccountEntry) (api.AccountBook, api.Errno) {
	if err := first(errorOfBook(b), errorOfEntry(b.Accounts, e), errorOfRoom(b, e.Date)); err != nil {
		return api.AccountBook{}, codeOf(err)
	}
	posted := copied(b)
	posted.Entries = slices.Insert(posted.Entries, upTo(b.Entries, e.Date), copiedEntry(e))
	return posted, api.OK
}

// errorOfRoom returns the error of a book that takes no entry of a date.
func errorOfRoom(b api.AccountBook, date int) error {
	if date/api.AccountMonth < b.Closed {
		return refusal{api.ErrState}
	}
	if len(b.Entries) == api.MaxAccountEntries {
		return refusal{api.ErrFull}
	}
	return nil
}

func copied(b api.AccountBook) api.AccountBook {
	book := api.AccountBook{Accounts: slices.Clone(b.Accounts), Closed: b.Closed}
	for _, e := range b.Entries {
		book.Entries = append(book.Entries, copiedEntry(e))
	}
	return book
}

func copiedEntry(e api.AccountEntry) api.AccountEntry {
	e.Lines = slices.Clone(e.Lines)
	return e
}

// upTo returns how many entries there are up to a date; they ascend by their dates.
func upTo(entries []api.AccountEntry, date int) int {
	return sort.Search(len(entries), func(i int) bool { return entries[i].Date > date })
}

// sums returns what entries put to each account that they name.
func sums(entries ...api.AccountEntry) map[string]int {
	put := map[string]int{}
	for _, e := range entries {
		for _, line := range e.Lines {
			put[line.Account] += line.Amount
		}
	}
	return put
}

// BalanceOf returns the balance of an account up to a date.
func BalanceOf(b api.AccountBook, account string, date int) (int, api.Errno) {
	if err := first(errorOfBook(b), errorOfAccount(b.Accounts, account), errorOfDate(date)); err != nil {
		return 0, codeOf(err)
	}
	return sums(b.Entries[:upTo(b.Entries, date)]...)[account], api.OK
}

// Balances returns the balances of all accounts behind all entries.
func Balances(b api.AccountBook) ([]int, api.Errno) {
	if err := errorOfBook(b); err != nil {
		return nil, codeOf(err)
	}
	put := sums(b.Entries...)
	balances := make([]int, len(b.Accounts))
	for i, x := range b.Accounts {
		balances[i] = put[x.Name]
	}
	return balances, api.OK
}

// Statement returns a row for each entry of some days that names an account.
func Statement(b api.AccountBook, account string, days [2]int) ([]api.AccountRow, api.Errno) {
	if err := first(errorOfBook(b), errorOfAccount(b.Accounts, account), errorOfDays(days)); err != nil {
		return nil, codeOf(err)
	}
	var rows []api.AccountRow
	balance := 0
	for i, e := range b.Entries[:upTo(b.Entries, days[1])] {
		amount, named := sums(e)[account]
		balance += amount
		if named && e.Date >= days[0] {
			rows = append(rows, api.AccountRow{Entry: i, Amount: amount, Balance: balance})
		}
	}
	return rows, api.OK
}

func errorOfDays(days [2]int) error {
	if err := first(errorOfDate(days[0]), errorOfDate(days[1])); err != nil {
		return err
	}
	if days[1] < days[0] {
		return refusal{api.ErrOrder}
	}
	return nil
}

// OpenItems returns the entries of which something is open of an account.
func OpenItems(b api.AccountBook, account string) ([]api.AccountItem, api.Errno) {
	if err := first(errorOfBook(b), errorOfAccount(b.Accounts, account)); err != nil {
		return nil, codeOf(err)
	}
	var items []api.AccountItem
	opened := make([]int, len(b.Entries))
	// Something stands over only while nothing is open: so what is settled is the oldest there is, whether it was settled late or at once.
	settled := 0
	for i, e := range b.Entries {
		for _, line := range e.Lines {
			if line.Account == account {
				opened[i] += max(0, line.Amount)
				settled += max(0, -line.Amount)
			}
		}
	}
	for i, amount := range opened {
		now := min(amount, settled)
		settled -= now
		if amount > now {
			items = append(items, api.AccountItem{Entry: i, Open: amount - now})
		}
	}
	return items, api.OK
}
