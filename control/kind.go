package control

import (
	"strings"

	"fiacre/account"
	"fiacre/api"
	"fiacre/check"
	"fiacre/duty"
	"fiacre/found"
	"fiacre/meter"
	"fiacre/rank"
	"fiacre/words"
)

// nothing stands where a text, a key or a car is none.
const nothing = "-"

// billDigits is how many digits the cents of a bill have at most.
const billDigits = 9

// A kind is what the entries of a kind have in common: their word, whose they are, the check of their texts, and what they do to a state.
type kind struct {
	word        string
	role        int
	errorOfText func(t api.Tariff, text string) api.Errno
	carryOut    func(l *ledger, x api.ControlEntry) api.Errno
}

func kinds() [api.ControlKinds]kind {
	return [api.ControlKinds]kind{
		api.ControlOrder:  {"order", api.ControlDispatcher, errorOfName, (*ledger).order},
		api.ControlAssign: {"assign", api.ControlDispatcher, errorOfName, (*ledger).assign},
		api.ControlCancel: {"cancel", api.ControlDispatcher, errorOfNothing, (*ledger).cancel},
		api.ControlCarry:  {"carry", api.ControlDriver, errorOfLog, (*ledger).carry},
		api.ControlBill:   {"bill", api.ControlCashier, errorOfBill, (*ledger).bill},
		api.ControlRank:   {"rank", api.ControlDispatcher, errorBy(rank.ParseEvent), (*ledger).keep},
		api.ControlDuty:   {"duty", api.ControlManager, errorBy(duty.ParseRecord), (*ledger).keep},
		api.ControlMoney:  {"money", api.ControlCashier, errorBy(account.ParseEntry), (*ledger).keep},
		api.ControlItem:   {"item", api.ControlClerk, errorBy(found.ParseItem), (*ledger).keep},
		api.ControlEvent:  {"event", api.ControlClerk, errorBy(found.ParseEvent), (*ledger).keep},
	}
}

func isKind(number int) bool { return check.Within(number, 0, api.ControlKinds-1) }

// kindOf returns the kind of a number that is one.
func kindOf(number int) kind { return kinds()[number] }

// kindOfWord returns the number of the kind with a word.
func kindOfWord(word string) (int, bool) {
	for number, k := range kinds() {
		if k.word == word {
			return number, true
		}
	}
	return 0, false
}

// isAboutTrip tells whether entries of a kind are about a trip.
func isAboutTrip(number int) bool {
	return check.Within(number, api.ControlAssign, api.ControlBill)
}

// errorOfText returns the error of the text of an entry of a kind.
func errorOfText(t api.Tariff, number int, text string) api.Errno {
	switch {
	case !isKind(number):
		return api.ErrKind
	case text == "" || strings.Contains(text, lineEnd):
		return api.ErrSyntax
	case len(text) > api.MaxControlText:
		return api.ErrLarge
	}
	return kindOf(number).errorOfText(t, text)
}

func errorOfName(_ api.Tariff, text string) api.Errno {
	if !words.IsName(text) {
		return api.ErrName
	}
	return api.OK
}

func errorOfNothing(_ api.Tariff, text string) api.Errno {
	if text != nothing {
		return api.ErrSyntax
	}
	return api.OK
}

func errorOfLog(t api.Tariff, text string) api.Errno {
	_, e := fareOf(t, text)
	return e
}

// fareOf returns the fare of the finished trip of the log with a text.
func fareOf(t api.Tariff, text string) (int, api.Errno) {
	log, e := meter.ParseLog(text)
	if e != api.OK {
		return 0, e
	}
	// The errors of TripsOf are those of CheckLog, which would run the log once more.
	trips, e := meter.TripsOf(t, log)
	switch {
	case e != api.OK:
		return 0, e
	case len(trips) != 1:
		return 0, api.ErrShape
	}
	return trips[0].Fare, api.OK
}

func errorOfBill(_ api.Tariff, text string) api.Errno {
	cents, is := words.Number(text, billDigits)
	switch {
	case !is:
		return api.ErrSyntax
	case !check.Within(cents, 0, api.MaxMoney):
		return api.ErrRange
	}
	return api.OK
}

// errorBy returns the check of texts that another chapter reads.
func errorBy[T any](parse func(text string) (T, api.Errno)) func(t api.Tariff, text string) api.Errno {
	return func(_ api.Tariff, text string) api.Errno {
		_, e := parse(text)
		return e
	}
}
