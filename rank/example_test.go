package rank_test

import (
	"fmt"

	"fiacre/api"
	"fiacre/rank"
)

func Example() {
	rules := api.RankRules{Ranks: []api.RankPlace{
		{Name: "stand", Places: 2, Feeder: 1},
		{Name: "feeder", Places: 3, Feeder: api.RankNone},
	}, Back: 1, Return: 60}
	var log []api.RankEvent
	for _, s := range []string{"arrive 0 0 a", "arrive 5 0 b", "arrive 9 1 c", "serve 20 0 a", "decline 30 0 b"} {
		x, e := rank.ParseEvent(s)
		if e != api.OK {
			fmt.Println(s, e)
		}
		log = append(log, x)
	}
	state, number, e := rank.Replay(rules, log)
	fmt.Println(rank.FormatState(state), number, e)
	car, e := rank.Next(rules, state, 0)
	fmt.Println(car, e)
	ahead, e := rank.Ahead(rules, state, "b")
	fmt.Println(ahead, e)
	waits, e := rank.Waits(rules, log)
	fmt.Println(waits, e)
	seen, e := rank.SightingsOf(rules, log)
	fmt.Println(len(seen), e)
	_, e = rank.Overtaken(seen)
	fmt.Println(e)
	_, e = rank.Apply(rules, state, api.RankEvent{Kind: api.RankReturn, At: 70, Rank: 0, Car: "a"})
	fmt.Println(e)
	// Output:
	// 30|c b||a:0:20 0 0
	// c 0
	// [c] 0
	// [{a 0 20}] 0
	// 7 0
	// 12
	// 16
}
