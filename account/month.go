package account

import "fiacre/api"

const (
	lastMonth     = maxClosed - 1 // the last month that can be closed
	lastClosing   = 3332          // the last month whose last day is a date
	noteOfClosing = "closing"
)

// Close returns a book with the months up to this one closed.
func Close(b api.AccountBook, month int) (api.AccountBook, api.Errno) {
	if err := first(errorOfBook(b), errorWithin(month, 0, lastMonth)); err != nil {
		return api.AccountBook{}, codeOf(err)
	}
	if month < b.Closed {
		return api.AccountBook{}, api.ErrOrder
	}
	closed := copied(b)
	closed.Closed = month + 1
	return closed, api.OK
}

// ClosingOf returns the entry that brings income and cost to 0 at the end of a month.
func ClosingOf(b api.AccountBook, month int, result string) (api.AccountEntry, api.Errno) {
	if err := first(errorOfBook(b), errorWithin(month, 0, lastClosing), errorOfResult(b.Accounts, result)); err != nil {
		return api.AccountEntry{}, codeOf(err)
	}
	date := (month+1)*api.AccountMonth - 1
	put := sums(b.Entries[:upTo(b.Entries, date)]...)
	var lines []api.AccountLine
	for _, x := range b.Accounts {
		if endsMonthly(x.Kind) {
			lines = withLines(lines, api.AccountLine{Account: x.Name, Amount: -put[x.Name]})
		}
	}
	lines = withLines(lines, api.AccountLine{Account: result, Amount: -total(lines)})
	if len(lines) == 0 {
		return api.AccountEntry{}, api.ErrNone
	}
	if err := errorOfMade(lines); err != nil {
		return api.AccountEntry{}, codeOf(err)
	}
	return api.AccountEntry{Date: date, Note: noteOfClosing, Lines: lines}, api.OK
}

func errorOfResult(l []api.AccountName, result string) error {
	if err := errorOfAccount(l, result); err != nil {
		return err
	}
	for _, x := range l {
		if x.Name == result && endsMonthly(x.Kind) {
			return refusal{api.ErrKind}
		}
	}
	return nil
}

// endsMonthly tells whether accounts of a kind are brought to 0 by a closing entry.
func endsMonthly(kind int) bool { return kind == api.AccountIncome || kind == api.AccountCost }
