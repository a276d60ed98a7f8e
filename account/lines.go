package account

import (
	"slices"

	"fiacre/api"
	"fiacre/check"
)

// Reversed returns an entry that undoes another one, on a date of its own.
func Reversed(e api.AccountEntry, date int) (api.AccountEntry, api.Errno) {
	if err := first(errorOfSize(e), errorOfDate(date)); err != nil {
		return api.AccountEntry{}, codeOf(err)
	}
	return api.AccountEntry{Date: date, Note: e.Note, Lines: opposite(e.Lines)}, api.OK
}

// Netted returns one entry that does what several do.
func Netted(l []api.AccountEntry, note string) (api.AccountEntry, api.Errno) {
	if err := first(errorOfSizes(l), errorOfNote(note)); err != nil {
		return api.AccountEntry{}, codeOf(err)
	}
	lines := net(l)
	if err := errorOfMade(lines); err != nil {
		return api.AccountEntry{}, codeOf(err)
	}
	return api.AccountEntry{Date: l[len(l)-1].Date, Note: note, Lines: lines}, api.OK
}

// net returns a line for each account to which entries put something together, in the order in which they name them first.
func net(l []api.AccountEntry) []api.AccountLine {
	var lines []api.AccountLine
	put := sums(l...)
	for _, e := range l {
		for _, line := range e.Lines {
			lines = withLines(lines, api.AccountLine{Account: line.Account, Amount: put[line.Account]})
			put[line.Account] = 0
		}
	}
	return lines
}

func errorOfSizes(l []api.AccountEntry) error {
	if len(l) == 0 {
		return refusal{api.ErrShape}
	}
	return numbered(check.List(len(l), api.MaxAccountEntries, func(i int) api.Errno { return codeOf(errorOfSize(l[i])) }))
}

// errorOfSize returns the error of an entry of which only the size is asked, as it may be one that does not balance.
func errorOfSize(e api.AccountEntry) error {
	return numbered(check.List(len(e.Lines), api.MaxAccountLines, func(i int) api.Errno {
		if !isAmount(e.Lines[i].Amount) {
			return api.ErrRange
		}
		return api.OK
	}))
}

// errorOfMade returns the error of lines that were made for an entry, and are too many or too great for it.
func errorOfMade(lines []api.AccountLine) error {
	if len(lines) > api.MaxAccountLines || slices.ContainsFunc(lines, func(x api.AccountLine) bool { return !isAmount(x.Amount) }) {
		return refusal{api.ErrLarge}
	}
	return nil
}

// withLines returns lines and more of them, without those of 0.
func withLines(lines []api.AccountLine, more ...api.AccountLine) []api.AccountLine {
	for _, line := range more {
		if line.Amount != 0 {
			lines = append(lines, line)
		}
	}
	return lines
}

// opposite returns lines with the opposite amounts.
func opposite(lines []api.AccountLine) []api.AccountLine {
	undone := slices.Clone(lines)
	for i := range undone {
		undone[i].Amount = -undone[i].Amount
	}
	return undone
}

func total(lines []api.AccountLine) int {
	sum := 0
	for _, line := range lines {
		sum += line.Amount
	}
	return sum
}
