package account

import (
	"cmp"
	"slices"

	"fiacre/api"
)

// Split returns an amount split by shares.
func Split(amount int, shares []int) ([]int, api.Errno) {
	if err := first(errorWithin(amount, -api.MaxNumber, api.MaxNumber), errorOfParties(shares), errorOfShares(shares...)); err != nil {
		return nil, codeOf(err)
	}
	return split(amount, shares...), api.OK
}

func errorOfParties(shares []int) error {
	switch {
	case len(shares) == 0:
		return refusal{api.ErrShape}
	case len(shares) > api.MaxAccountShares:
		return refusal{api.ErrLarge}
	}
	return nil
}

func errorOfShares(shares ...int) error {
	for _, share := range shares {
		if err := errorWithin(share, 0, api.MaxAccountShare); err != nil {
			return err
		}
	}
	if !slices.ContainsFunc(shares, func(share int) bool { return share > 0 }) {
		return refusal{api.ErrZero}
	}
	return nil
}

func split(amount int, shares ...int) []int {
	size, sign := amount, 1
	if amount < 0 {
		size, sign = -amount, -1
	}
	parts := make([]int, len(shares))
	for i, cents := range splitUp(size, shares) {
		parts[i] = sign * cents
	}
	return parts
}

// splitUp splits an amount of 0 or more.
func splitUp(amount int, shares []int) []int {
	all := 0
	for _, share := range shares {
		all += share
	}
	parts := make([]int, len(shares))
	rests := make([]int, len(shares))
	order := make([]int, len(shares))
	left := amount
	for i, share := range shares {
		// The amount times the share may be more than an int: so what is split evenly goes apart from the rest.
		over := amount % all * share
		parts[i], rests[i], order[i] = amount/all*share+over/all, over%all, i
		left -= parts[i]
	}
	slices.SortStableFunc(order, func(i, j int) int { return cmp.Compare(rests[j], rests[i]) })
	for _, i := range order[:left] {
		parts[i]++
	}
	return parts
}

// CheckRule returns the first error of a rule.
func CheckRule(l []api.AccountName, r api.AccountRule) api.Errno { return codeOf(errorOfRule(l, r)) }

func errorOfRule(l []api.AccountName, r api.AccountRule) error {
	return first(errorOfAccounts(l), errorOfNamed(l, r.Owner, r.Driver, r.Office, r.Cash, r.Vouchers), errorOfShares(r.Shares[:]...))
}

// errorOfNamed returns the error of names of accounts that differ.
func errorOfNamed(l []api.AccountName, names ...string) error {
	for _, name := range names {
		if err := errorOfAccount(l, name); err != nil {
			return err
		}
	}
	for i, name := range names {
		if slices.Contains(names[:i], name) {
			return refusal{api.ErrDouble}
		}
	}
	return nil
}

// FareEntry returns the entry of a trip.
func FareEntry(l []api.AccountName, r api.AccountRule, t api.AccountTrip) (api.AccountEntry, api.Errno) {
	if err := first(errorOfRule(l, r), errorOfTrip(t)); err != nil {
		return api.AccountEntry{}, codeOf(err)
	}
	lines := fareLines(r, t)
	if len(lines) == 0 {
		return api.AccountEntry{}, api.ErrNone
	}
	if err := errorOfMade(lines); err != nil {
		return api.AccountEntry{}, codeOf(err)
	}
	return api.AccountEntry{Date: t.Date, Note: t.Note, Lines: lines}, api.OK
}

func errorOfTrip(t api.AccountTrip) error {
	err := first(errorOfDate(t.Date), errorOfNote(t.Note), errorOfMoney(t.Fare), errorOfMoney(t.Tip), errorOfMoney(t.Voucher))
	if err == nil && t.Voucher > t.Fare {
		err = refusal{api.ErrBreak}
	}
	return err
}

// fareLines returns the lines of the entry of a trip.
func fareLines(r api.AccountRule, t api.AccountTrip) []api.AccountLine {
	parts := split(t.Fare, r.Shares[:]...)
	return withLines(nil,
		api.AccountLine{Account: r.Cash, Amount: t.Fare + t.Tip - t.Voucher},
		api.AccountLine{Account: r.Vouchers, Amount: t.Voucher},
		api.AccountLine{Account: r.Owner, Amount: -parts[0]},
		api.AccountLine{Account: r.Driver, Amount: -parts[1]},
		api.AccountLine{Account: r.Office, Amount: -parts[2]},
		api.AccountLine{Account: r.Driver, Amount: -t.Tip},
	)
}

// Decide returns the refund of a complaint, and the answer to it.
func Decide(c api.AccountComplaint) (int, int, api.Errno) {
	if err := errorOfComplaint(c); err != nil {
		return 0, 0, codeOf(err)
	}
	refund, answer := decided(c)
	return refund, answer, api.OK
}

func errorOfComplaint(c api.AccountComplaint) error {
	err := first(errorOfDate(c.Date), errorOfNote(c.Note), errorOfMoney(c.Paid), errorOfMoney(c.Law.Lo), errorOfMoney(c.Law.Hi), errorOfMoney(c.Slack))
	if err == nil && c.Law.Lo > c.Law.Hi {
		err = refusal{api.ErrOrder}
	}
	return err
}

func decided(c api.AccountComplaint) (int, int) {
	over := c.Paid - c.Law.Hi
	switch {
	case over <= 0:
		return 0, api.AnswerNo
	case over <= c.Slack:
		return 0, api.AnswerMaybe
	}
	return over, api.AnswerYes
}

// Refund returns the entry of a refund.
func Refund(l []api.AccountName, r api.AccountRule, c api.AccountComplaint) (api.AccountEntry, api.Errno) {
	if err := first(errorOfRule(l, r), errorOfComplaint(c)); err != nil {
		return api.AccountEntry{}, codeOf(err)
	}
	refund, _ := decided(c)
	if refund == 0 {
		return api.AccountEntry{}, api.ErrNone
	}
	lines := fareLines(r, api.AccountTrip{Fare: refund})
	return api.AccountEntry{Date: c.Date, Note: c.Note, Lines: opposite(lines)}, api.OK
}
