package account_test

import (
	"fmt"
	"math"
	"math/big"
	"math/rand"
	"slices"
	"testing"

	"fiacre/account"
	"fiacre/api"
)

// TestSplit is of P8.4: parts rounded down, and what is left to the greatest remainders.
func TestSplit(t *testing.T) {
	for _, x := range []struct {
		amount         int
		shares, wanted []int
	}{
		{1001, []int{50, 40, 10}, []int{501, 400, 100}},
		{-1001, []int{50, 40, 10}, []int{-501, -400, -100}},
		{100, []int{1, 1, 1}, []int{34, 33, 33}},
		{101, []int{1, 1, 1}, []int{34, 34, 33}},
		{-101, []int{1, 1, 1}, []int{-34, -34, -33}},
		{0, []int{3, 0, 4}, []int{0, 0, 0}},
		{7, []int{5}, []int{7}},
		{-7, []int{1000000}, []int{-7}},
		{2, []int{0, 1, 0, 2}, []int{0, 1, 0, 1}},
		{1, []int{1, 2, 2}, []int{0, 1, 0}},
		{1, []int{0, 0, 7, 7}, []int{0, 0, 1, 0}},
		{10, []int{3, 3, 5}, []int{3, 3, 4}},
		{5, []int{1, 3, 2, 4}, []int{1, 1, 1, 2}},
		{4, []int{1, 3, 2, 3}, []int{1, 1, 1, 1}},
		{1000000000000000, []int{1000000, 999999, 1}, []int{500000000000000, 499999500000000, 500000000}},
		{-999999999999999, []int{1000000, 1000000}, []int{-500000000000000, -499999999999999}},
		{1000000000000000, []int{0, 1000000}, []int{0, 1000000000000000}},
	} {
		gives(t, fmt.Sprint("Split ", x.amount, x.shares), x.wanted)(account.Split(x.amount, x.shares))
	}
}

// TestSplitErrors is of P8.4: which error comes ahead of which.
func TestSplitErrors(t *testing.T) {
	ones := slices.Repeat([]int{1}, 13)
	gives(t, "12 shares", ones[:12])(account.Split(12, ones[:12]))
	gives(t, "the greatest share", []int{5})(account.Split(5, []int{1000000}))
	for _, x := range []struct {
		amount int
		shares []int
		e      api.Errno
	}{
		{1000000000000001, nil, api.ErrRange},
		{-1000000000000001, ones, api.ErrRange},
		{math.MinInt, []int{1}, api.ErrRange},
		{math.MaxInt, []int{1}, api.ErrRange},
		{5, nil, api.ErrShape},
		{5, []int{}, api.ErrShape},
		{5, ones, api.ErrLarge},
		{5, make([]int, 13), api.ErrLarge},
		{5, slices.Repeat([]int{-1}, 13), api.ErrLarge},
		{5, []int{-1}, api.ErrRange},
		{5, []int{0, 1000001}, api.ErrRange},
		{5, []int{1, 2, math.MinInt}, api.ErrRange},
		{5, []int{-1, 0, 1}, api.ErrRange},
		{5, []int{0, 0, -1}, api.ErrRange},
		{5, []int{0}, api.ErrZero},
		{0, []int{0, 0, 0}, api.ErrZero},
	} {
		fails(t, fmt.Sprint("Split ", x.amount, x.shares), x.e)(account.Split(x.amount, x.shares))
	}
}

// TestSplitLikeSlow is of P8.4 and P8.9: random splits are as defined, and not a cent is lost.
func TestSplitLikeSlow(t *testing.T) {
	r := rand.New(rand.NewSource(85))
	for range 3000 {
		amount := r.Intn([]int{10, 1000, 1000000000, 1000000000000001}[r.Intn(4)]) * (1 - 2*r.Intn(2))
		var shares []int
		for range 1 + r.Intn(12) {
			shares = append(shares, r.Intn([]int{1, 3, 10, 1000001}[r.Intn(4)]))
		}
		shares[r.Intn(len(shares))] = 1 + r.Intn(5)
		parts, e := account.Split(amount, shares)
		gives(t, fmt.Sprint("Split ", amount, shares), slowSplit(amount, shares))(parts, e)
		all, sum := 0, 0
		for i, share := range shares {
			all += share
			sum += parts[i]
		}
		for i, share := range shares {
			away := new(big.Rat).Mul(big.NewRat(int64(amount), int64(all)), big.NewRat(int64(share), 1))
			away.Sub(away, big.NewRat(int64(parts[i]), 1))
			if away.Abs(away).Cmp(big.NewRat(1, 1)) >= 0 || share == 0 && parts[i] != 0 {
				t.Errorf("the part %d of %d by %d of %d", parts[i], amount, share, all)
			}
		}
		if sum != amount {
			t.Errorf("the parts of %d come to %d", amount, sum)
		}
	}
}

// wrongRule is a rule of the document's accounts with an error.
type wrongRule struct {
	r api.AccountRule
	e api.Errno
}

func allWrongRules() map[string]wrongRule {
	with := func(change func(r *api.AccountRule)) api.AccountRule {
		r := usual()
		change(&r)
		return r
	}
	rules := map[string]wrongRule{
		"no owner":                        {with(func(r *api.AccountRule) { r.Owner = "" }), api.ErrMissing},
		"no driver":                       {with(func(r *api.AccountRule) { r.Driver = "bob" }), api.ErrMissing},
		"no office":                       {with(func(r *api.AccountRule) { r.Office = "Office" }), api.ErrMissing},
		"no cash":                         {with(func(r *api.AccountRule) { r.Cash = "cas" }), api.ErrMissing},
		"no vouchers":                     {with(func(r *api.AccountRule) { r.Vouchers = "" }), api.ErrMissing},
		"none ahead of two that are one":  {with(func(r *api.AccountRule) { r.Owner, r.Vouchers = "ann", "" }), api.ErrMissing},
		"two that are one, then a share":  {with(func(r *api.AccountRule) { r.Vouchers, r.Shares[0] = "cash", -1 }), api.ErrDouble},
		"all shares 0":                    {with(func(r *api.AccountRule) { r.Shares = [3]int{} }), api.ErrZero},
		"a share ahead of all that are 0": {with(func(r *api.AccountRule) { r.Shares = [3]int{0, 0, -1} }), api.ErrRange},
	}
	for i := range 3 {
		for _, share := range []int{-1, 1000001, math.MinInt, math.MaxInt} {
			rules[fmt.Sprint("the share ", i, " is ", share)] = wrongRule{with(func(r *api.AccountRule) { r.Shares[i] = share }), api.ErrRange}
		}
	}
	for i := range 5 {
		for j := range i {
			rules[fmt.Sprint("two that are one: ", i, j)] = wrongRule{with(func(r *api.AccountRule) {
				fields := []*string{&r.Owner, &r.Driver, &r.Office, &r.Cash, &r.Vouchers}
				*fields[i] = *fields[j]
			}), api.ErrDouble}
		}
	}
	return rules
}

// TestCheckRule is of P8.4: each error of a rule.
func TestCheckRule(t *testing.T) {
	rules := []api.AccountRule{usual(), usual(), usual()}
	rules[1].Shares = [3]int{0, 0, 1}
	rules[2].Shares = [3]int{1000000, 0, 1000000}
	for _, r := range rules {
		if e := account.CheckRule(names(), r); e != api.OK {
			t.Errorf("%v: error %d", r, e)
		}
	}
	for what, x := range allWrongRules() {
		if e := account.CheckRule(names(), x.r); e != x.e {
			t.Errorf("%s: error %d, want %d", what, e, x.e)
		}
		failsByRule(t, what, x.e, names(), x.r)
	}
}

// failsByRule wants of all functions of a rule its error, ahead of all errors of further arguments.
func failsByRule(t *testing.T, what string, e api.Errno, l []api.AccountName, r api.AccountRule) {
	t.Helper()
	for _, x := range []api.AccountTrip{trip(), {}, {Date: -1}} {
		fails(t, "FareEntry: "+what, e)(account.FareEntry(l, r, x))
	}
	for _, c := range []api.AccountComplaint{complaint(), {}, {Date: -1}} {
		fails(t, "Refund: "+what, e)(account.Refund(l, r, c))
	}
}

// trip is the trip of the document's examples.
func trip() api.AccountTrip {
	return api.AccountTrip{Date: 12, Note: "trip1", Fare: 1001, Tip: 99, Voucher: 500}
}

// sumsTrip is a trip of these sums.
func sumsTrip(fare, tip, voucher int) api.AccountTrip {
	return api.AccountTrip{Date: 0, Note: "n", Fare: fare, Tip: tip, Voucher: voucher}
}

// TestFareEntry is of P8.4: the lines of trips, those of 0 left out.
func TestFareEntry(t *testing.T) {
	gives(t, "the trip of the examples", paid())(account.FareEntry(names(), usual(), trip()))
	for _, x := range []struct {
		what   string
		shares [3]int
		trip   api.AccountTrip
		wanted []api.AccountLine
	}{
		{"only a fare", [3]int{50, 40, 10}, sumsTrip(1000, 0, 0), []api.AccountLine{line("cash", 1000), line("owner", -500), line("ann", -400), line("office", -100)}},
		{"only a tip", [3]int{50, 40, 10}, sumsTrip(0, 5, 0), []api.AccountLine{line("cash", 5), line("ann", -5)}},
		{"a voucher for all", [3]int{50, 40, 10}, sumsTrip(1000, 0, 1000), []api.AccountLine{line("vouchers", 1000), line("owner", -500), line("ann", -400), line("office", -100)}},
		{"a voucher for the fare", [3]int{50, 40, 10}, sumsTrip(1000, 1, 1000), []api.AccountLine{line("cash", 1), line("vouchers", 1000), line("owner", -500), line("ann", -400), line("office", -100), line("ann", -1)}},
		{"all for the office", [3]int{0, 0, 1}, sumsTrip(7, 0, 0), []api.AccountLine{line("cash", 7), line("office", -7)}},
		{"a cent for the driver", [3]int{1, 2, 1}, sumsTrip(1, 0, 0), []api.AccountLine{line("cash", 1), line("ann", -1)}},
		{"as much as there may be", [3]int{1, 0, 1}, sumsTrip(1000000000, 1000000000, 1000000000), []api.AccountLine{line("cash", 1000000000), line("vouchers", 1000000000), line("owner", -500000000), line("office", -500000000), line("ann", -1000000000)}},
	} {
		r := usual()
		r.Shares = x.shares
		gives(t, x.what, entry(0, x.wanted...))(account.FareEntry(names(), r, x.trip))
	}
}

// TestFareEntryErrors is of P8.4: which error comes ahead of which.
func TestFareEntryErrors(t *testing.T) {
	for _, x := range []struct {
		what   string
		change func(x *api.AccountTrip)
		e      api.Errno
	}{
		{"a date below 0", func(x *api.AccountTrip) { x.Date, x.Note = -1, "" }, api.ErrRange},
		{"a date behind the last one", func(x *api.AccountTrip) { x.Date = 100001 }, api.ErrRange},
		{"the last date", func(x *api.AccountTrip) { x.Date = 100000 }, api.OK},
		{"no note", func(x *api.AccountTrip) { x.Note, x.Fare = "", -1 }, api.ErrName},
		{"a note that is no name", func(x *api.AccountTrip) { x.Note = "trip 1" }, api.ErrName},
		{"a fare below 0", func(x *api.AccountTrip) { x.Fare, x.Voucher = -1, 0 }, api.ErrRange},
		{"a great fare", func(x *api.AccountTrip) { x.Fare = 1000000001 }, api.ErrRange},
		{"a tip below 0", func(x *api.AccountTrip) { x.Tip = -1 }, api.ErrRange},
		{"a great tip", func(x *api.AccountTrip) { x.Tip = 1000000001 }, api.ErrRange},
		{"a voucher below 0", func(x *api.AccountTrip) { x.Voucher = -1 }, api.ErrRange},
		{"a great voucher", func(x *api.AccountTrip) { x.Voucher = 1000000001 }, api.ErrRange},
		{"numbers without end", func(x *api.AccountTrip) { x.Fare, x.Tip, x.Voucher = math.MaxInt, math.MaxInt, math.MinInt }, api.ErrRange},
		{"a voucher for more than the fare", func(x *api.AccountTrip) { x.Voucher = 1002 }, api.ErrBreak},
		{"a voucher for nothing", func(x *api.AccountTrip) { x.Fare, x.Tip, x.Voucher = 0, 0, 1 }, api.ErrBreak},
		{"a voucher for the tip", func(x *api.AccountTrip) { x.Fare, x.Tip, x.Voucher = 0, 5, 5 }, api.ErrBreak},
		{"nothing", func(x *api.AccountTrip) { x.Fare, x.Tip, x.Voucher = 0, 0, 0 }, api.ErrNone},
		{"great cash", func(x *api.AccountTrip) { x.Fare, x.Tip, x.Voucher = 1000000000, 1, 0 }, api.ErrLarge},
		{"great cash by a tip", func(x *api.AccountTrip) { x.Fare, x.Tip, x.Voucher = 3, 1000000000, 2 }, api.ErrLarge},
		{"the greatest cash", func(x *api.AccountTrip) { x.Fare, x.Tip, x.Voucher = 3, 1000000000, 3 }, api.OK},
	} {
		trip := trip()
		x.change(&trip)
		e, code := account.FareEntry(names(), usual(), trip)
		if code != x.e || code != api.OK && !isNothing(e) {
			t.Errorf("%s: %v, error %d; want %d", x.what, e, code, x.e)
		}
	}
}

// TestFareEntryBalances is of P8.9 and P5: the entry of a trip is right, and driver, owner and office get the fare and the tip.
func TestFareEntryBalances(t *testing.T) {
	r := rand.New(rand.NewSource(86))
	for range 1000 {
		size := []int{3, 1000, 400000000}[r.Intn(3)]
		x := sumsTrip(1+r.Intn(size), r.Intn(size), 0)
		x.Voucher = []int{0, r.Intn(x.Fare + 1), x.Fare}[r.Intn(3)]
		rule := usual()
		rule.Shares = [3]int{r.Intn(100), r.Intn(3), 1 + r.Intn(1000000)}
		e, code := account.FareEntry(names(), rule, x)
		at(t, "CheckEntry", 0, code)(account.CheckEntry(names(), e))
		b := book(e)
		got := -slowBalance(b, "ann", 0) - slowBalance(b, "owner", 0) - slowBalance(b, "office", 0)
		if got != x.Fare+x.Tip || slowBalance(b, "vouchers", 0) != x.Voucher || code != api.OK {
			t.Errorf("%v: %v, error %d", x, e, code)
		}
		parts := slowSplit(x.Fare, rule.Shares[:])
		if -slowBalance(b, "owner", 0) != parts[0] || -slowBalance(b, "office", 0) != parts[2] {
			t.Errorf("%v by %v: %v", x, rule.Shares, e)
		}
	}
}

// complaint is the complaint of the document's examples.
func complaint() api.AccountComplaint {
	return api.AccountComplaint{Date: 20, Note: "c", Paid: 1500, Law: api.Range{Lo: 1200, Hi: 1300}, Slack: 100}
}

// TestDecide is of P8.6: within the law, within the slack, and beyond.
func TestDecide(t *testing.T) {
	for _, x := range []struct {
		paid, lo, hi, slack int
		wanted              decision
	}{
		{1500, 1200, 1300, 100, decision{200, api.AnswerYes}},
		{1500, 1200, 1300, 200, decision{0, api.AnswerMaybe}},
		{1500, 1200, 1300, 199, decision{200, api.AnswerYes}},
		{1250, 1200, 1300, 100, decision{0, api.AnswerNo}},
		{1300, 1200, 1300, 0, decision{0, api.AnswerNo}},
		{1301, 1200, 1300, 0, decision{1, api.AnswerYes}},
		{1301, 1200, 1300, 1, decision{0, api.AnswerMaybe}},
		{1200, 1200, 1300, 0, decision{0, api.AnswerNo}},
		{1199, 1200, 1300, 0, decision{0, api.AnswerNo}},
		{0, 0, 0, 0, decision{0, api.AnswerNo}},
		{1000000000, 0, 0, 0, decision{1000000000, api.AnswerYes}},
		{1000000000, 0, 0, 1000000000, decision{0, api.AnswerMaybe}},
		{5, 1000000000, 1000000000, 3, decision{0, api.AnswerNo}},
	} {
		c := api.AccountComplaint{Note: "c", Paid: x.paid, Law: api.Range{Lo: x.lo, Hi: x.hi}, Slack: x.slack}
		gives(t, fmt.Sprint("Decide ", x), x.wanted)(decide(c))
	}
}

// TestComplaintErrors is of P8.6: which error comes ahead of which, also for the entry of the refund.
func TestComplaintErrors(t *testing.T) {
	for _, x := range []struct {
		what   string
		change func(c *api.AccountComplaint)
		e      api.Errno
	}{
		{"a date below 0", func(c *api.AccountComplaint) { c.Date, c.Note = -1, "" }, api.ErrRange},
		{"a date behind the last one", func(c *api.AccountComplaint) { c.Date = 100001 }, api.ErrRange},
		{"no note", func(c *api.AccountComplaint) { c.Note, c.Paid = "", -1 }, api.ErrName},
		{"a note that is no name", func(c *api.AccountComplaint) { c.Note = "1" }, api.ErrName},
		{"less than nothing", func(c *api.AccountComplaint) { c.Paid = -1 }, api.ErrRange},
		{"too much", func(c *api.AccountComplaint) { c.Paid = 1000000001 }, api.ErrRange},
		{"a law below 0", func(c *api.AccountComplaint) { c.Law.Lo = -1 }, api.ErrRange},
		{"a law that is too great", func(c *api.AccountComplaint) { c.Law.Lo = 1000000001 }, api.ErrRange},
		{"the end of a law below 0", func(c *api.AccountComplaint) { c.Law.Hi = -1 }, api.ErrRange},
		{"the end of a law that is too great", func(c *api.AccountComplaint) { c.Law.Hi = 1000000001 }, api.ErrRange},
		{"a slack below 0", func(c *api.AccountComplaint) { c.Slack = -1 }, api.ErrRange},
		{"a slack that is too great", func(c *api.AccountComplaint) { c.Slack = 1000000001 }, api.ErrRange},
		{"the slack ahead of the order", func(c *api.AccountComplaint) { c.Law.Lo, c.Slack = 1301, -1 }, api.ErrRange},
		{"the order of a law", func(c *api.AccountComplaint) { c.Law.Lo = 1301 }, api.ErrOrder},
		{"the order of a law, nothing paid", func(c *api.AccountComplaint) { c.Law.Lo, c.Paid = 1301, 0 }, api.ErrOrder},
	} {
		c := complaint()
		x.change(&c)
		fails(t, x.what, x.e)(decide(c))
		fails(t, "Refund: "+x.what, x.e)(account.Refund(names(), usual(), c))
	}
	for _, paid := range []int{0, 1200, 1300, 1400} {
		c := complaint()
		c.Paid = paid
		fails(t, fmt.Sprint("Refund of ", paid), api.ErrNone)(account.Refund(names(), usual(), c))
	}
}

// TestRefund is of P8.6: the entry of a trip with the refund as its fare, the other way round.
func TestRefund(t *testing.T) {
	wanted := entry(20, line("cash", -200), line("owner", 100), line("ann", 80), line("office", 20))
	wanted.Note = "c"
	gives(t, "the refund of the examples", wanted)(account.Refund(names(), usual(), complaint()))
	r := rand.New(rand.NewSource(87))
	for range 500 {
		rule := usual()
		rule.Shares = [3]int{r.Intn(5), 1 + r.Intn(9), r.Intn(3)}
		c := complaint()
		c.Paid = 1401 + r.Intn(3000)
		fare := first(account.FareEntry(names(), rule, api.AccountTrip{Date: c.Date, Note: c.Note, Fare: c.Paid - 1300}))
		refund, e := account.Refund(names(), rule, c)
		at(t, "CheckEntry", 0, e)(account.CheckEntry(names(), refund))
		for i, x := range fare.Lines {
			fare.Lines[i].Amount = -x.Amount
		}
		gives(t, "Refund", fare)(refund, e)
	}
	most := complaint()
	most.Paid, most.Law = 1000000000, api.Range{}
	gives(t, "the greatest refund", line("cash", -1000000000))(first(account.Refund(names(), usual(), most)).Lines[0], api.OK)
}

// TestRefundIsFair is of P8.12: never more than what was beyond the law, and enough to be within it, or in its slack.
func TestRefundIsFair(t *testing.T) {
	r := rand.New(rand.NewSource(88))
	for range 2000 {
		c := complaint()
		c.Paid, c.Law.Lo, c.Slack = r.Intn(40), r.Intn(20), r.Intn(8)
		c.Law.Hi = c.Law.Lo + r.Intn(8)
		x, e := decide(c)
		left := c.Paid - x.Refund
		beyond := max(0, c.Paid-c.Law.Hi)
		if e != api.OK || x.Refund < 0 || x.Refund > beyond || left > c.Law.Hi+c.Slack {
			t.Errorf("%v: %v, error %d", c, x, e)
		}
		if (x.Answer == api.AnswerYes) != (x.Refund > 0) || (x.Answer == api.AnswerNo) != (beyond == 0) || x.Refund > 0 && left < c.Law.Lo {
			t.Errorf("%v: %v", c, x)
		}
	}
}
