package account_test

import (
	"fmt"

	"fiacre/account"
	"fiacre/api"
)

func Example() {
	accounts := []api.AccountName{{Name: "cash", Kind: api.AccountAsset}, {Name: "vouchers", Kind: api.AccountAsset}, {Name: "ann", Kind: api.AccountDebt}, {Name: "owner", Kind: api.AccountDebt}, {Name: "office", Kind: api.AccountIncome}}
	rule := api.AccountRule{Owner: "owner", Driver: "ann", Office: "office", Shares: [3]int{50, 40, 10}, Cash: "cash", Vouchers: "vouchers"}
	parts, e := account.Split(1001, rule.Shares[:])
	fmt.Println(parts, e)
	trip, e := account.FareEntry(accounts, rule, api.AccountTrip{Date: 12, Note: "trip1", Fare: 1001, Tip: 99, Voucher: 500})
	fmt.Println(account.FormatEntry(trip), e)
	b, e := account.Post(api.AccountBook{Accounts: accounts}, trip)
	fmt.Println(len(b.Entries), e)
	balances, e := account.Balances(b)
	fmt.Println(balances, e)
	closing, e := account.ClosingOf(b, 0, "owner")
	fmt.Println(account.FormatEntry(closing), e)
	payment, e := account.ParseEntry("13 paid vouchers=-200 cash=200")
	fmt.Println(payment, e)
	b, e = account.Post(b, payment)
	fmt.Println(len(b.Entries), e)
	items, e := account.OpenItems(b, "vouchers")
	fmt.Println(items, e)
	rows, e := account.Statement(b, "vouchers", [2]int{0, 29})
	fmt.Println(rows, e)
	complaint := api.AccountComplaint{Date: 20, Note: "complaint", Paid: 1500, Law: api.Range{Lo: 1200, Hi: 1300}, Slack: 100}
	cents, answer, e := account.Decide(complaint)
	fmt.Println(cents, answer == api.AnswerYes, e)
	refund, e := account.Refund(accounts, rule, complaint)
	fmt.Println(account.FormatEntry(refund), e)
	b, e = account.Close(b, 0)
	fmt.Println(b.Closed, e)
	_, e = account.Post(b, refund)
	fmt.Println(e == api.ErrState)
	// Output:
	// [501 400 100] 0
	// 12 trip1 cash=600 vouchers=500 owner=-501 ann=-400 office=-100 ann=-99 0
	// 1 0
	// [600 500 -499 -501 -100] 0
	// 29 closing office=100 owner=-100 0
	// {13 paid [{vouchers -200} {cash 200}]} 0
	// 2 0
	// [{0 300}] 0
	// [{0 500 500} {1 -200 300}] 0
	// 200 true 0
	// 20 complaint cash=-200 owner=100 ann=80 office=20 0
	// 1 0
	// true
}
