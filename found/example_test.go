package found_test

import (
	"fmt"

	"fiacre/api"
	"fiacre/found"
)

func Example() {
	hat, e := found.ParseItem("hat 10 ann color=red kind=hat size=big")
	fmt.Println(hat, e)
	flat, e := found.ParseItem("cap 12 ann color=red kind=cap")
	fmt.Println(flat, e)
	bag, e := found.ParseItem("bag 11 bob color=red kind=hat")
	fmt.Println(bag, e)
	items := []api.FoundItem{hat, flat, bag}
	one := api.FoundClaim{Name: "one", Day: 12, Owner: "cid", Marks: bag.Marks}
	two := api.FoundClaim{Name: "two", Day: 9, Owner: "dan", Marks: hat.Marks}
	claims := []api.FoundClaim{one, two}
	both, e := found.Agreement(hat.Marks, one.Marks)
	fmt.Println(both, e)
	numbers, e := found.Candidates(items, one)
	fmt.Println(numbers, e)
	best, e := found.BestFor(items, one)
	fmt.Println(best, e)
	most, e := found.MostClaims(items, claims)
	fmt.Println(len(most.Pairs), e)
	pairs, e := found.CheckPairs(items, claims, most.Pairs)
	fmt.Println(pairs, e)
	bound, e := found.CheckCover(items, claims, most.Cover)
	fmt.Println(bound, e)
	stored, e := found.ParseEvent("hat 20 stored ann office")
	fmt.Println(stored, e)
	chain := []api.FoundEvent{stored, {Item: "hat", Day: 30, Kind: api.FoundMoved, From: "office", To: "depot"}}
	holder, e := found.HolderAt(hat, chain, 29)
	fmt.Println(holder, e)
	right, e := found.RightAt(hat, chain, 201)
	fmt.Println(right == api.FoundFindersRight, e)
	overdue, e := found.Overdue([]api.FoundKept{{Item: hat, Events: chain}}, 231)
	fmt.Println(overdue, e)
	sold := api.FoundEvent{Item: "hat", Day: 231, Kind: api.FoundSold, From: "depot", To: "eve"}
	fmt.Println(found.FormatEvent(sold))
	_, e = found.CheckChain(hat, append(chain, sold))
	fmt.Println(e)
	reward, e := found.RewardOf(60000)
	fmt.Println(reward, e)
	// Output:
	// {hat 10 ann [{color red} {kind hat} {size big}]} 0
	// {cap 12 ann [{color red} {kind cap}]} 0
	// {bag 11 bob [{color red} {kind hat}]} 0
	// [2 0] 0
	// [0 2] 0
	// 2 0
	// 2 0
	// 2 0
	// 2 0
	// {hat 20 0 ann office} 0
	// office 0
	// true 0
	// [0] 0
	// hat 231 sold depot eve
	// 0
	// 2800 0
}
