package duty_test

import (
	"fmt"

	"fiacre/api"
	"fiacre/duty"
)

func Example() {
	r := api.DutyRules{Break: 900, Rest: 36000, Stint: 16200, Shift: 43200, Week: 200000}
	early := []api.DutyRecord{{Driver: "ann", From: 0, To: 10000}, {Driver: "ann", From: 10500, To: 15000}}
	late, e := duty.ParseRecord("ann 16000 20000")
	fmt.Println(late, e)
	l, e := duty.Joined(early, []api.DutyRecord{late})
	fmt.Println(len(l), e)
	stints, e := duty.Stints(r, l)
	fmt.Println(stints, e)
	work, e := duty.WorkIn(l, 9000, 11000)
	fmt.Println(work, e)
	_, e = duty.FirstBroken(r, l)
	fmt.Println(e == api.ErrNone)
	trip := api.DutyTrip{Start: 20000, Takes: api.Range{Lo: 5000, Hi: 13000}, Next: -1}
	answer, rule, e := duty.Allowed(r, l, trip)
	fmt.Println(answer == api.AnswerMaybe, rule == api.DutyStint, e)
	longest, e := duty.LongestFrom(r, l, 20000)
	fmt.Println(longest, e)
	start, e := duty.EarliestStart(r, l, trip)
	fmt.Println(start, e)
	licences := []api.DutyLicence{{Kind: "taxi", From: 100, To: 200}, {Kind: "taxi", From: 201, To: 300}}
	last, e := duty.Lapses(licences, "taxi", 150)
	fmt.Println(last, e)
	lacks, e := duty.MayDrive(licences, []string{"taxi", "bus"}, 150)
	fmt.Println(lacks, e)
	date, e := duty.NextInspection([]int{100, 300}, 180, 310)
	fmt.Println(date, e)
	uses := []api.DutyUse{{Car: "a", From: 0, To: 10}, {Car: "b", From: 5, To: 15}, {Car: "c", From: 10, To: 20}}
	plates, e := duty.Plates(uses)
	fmt.Println(plates.Plates, e)
	many, e := duty.CheckPlates(uses, plates)
	fmt.Println(many, e)
	// Output:
	// {ann 16000 20000} 0
	// 3 0
	// [[0 1] [2 2]] 0
	// 1500 0
	// true
	// true true 0
	// 12200 0
	// 20900 0
	// 300 0
	// bus 0
	// 480 0
	// [0 1 0] 0
	// 2 0
}
