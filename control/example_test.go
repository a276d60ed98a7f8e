package control_test

import (
	"fmt"
	"strings"

	"fiacre/api"
	"fiacre/control"
	"fiacre/tariff"
)

func Example() {
	city, _, e := tariff.Parse("tariff city 1000 10\nzone town\nrule day 0 100000 town 01234567 0 0 350 5 8\n")
	fmt.Println(city.Name, e)
	room := api.ControlSetup{
		Tariff: city,
		Desks:  []string{"a", "b"},
		Persons: []api.ControlPerson{
			{Name: "dan", Roles: []int{api.ControlDispatcher}},
			{Name: "eve", Roles: []int{api.ControlDriver, api.ControlCashier}},
		},
	}
	may, e := control.May(room, "eve", api.ControlOrder)
	fmt.Println(may, e)
	a, e := control.OpenDesk(room, "a")
	fmt.Println(e)
	b, e := control.OpenDesk(room, "b")
	fmt.Println(e)
	order, e := a.Write(api.ControlDraft{Person: "dan", Kind: api.ControlOrder, Text: "smith"})
	fmt.Println(order, e)
	trip := api.ControlKey{Desk: "a", Number: 0}
	_, e = a.Write(api.ControlDraft{Person: "dan", Kind: api.ControlAssign, Key: trip, Text: "car-7"})
	fmt.Println(e)
	many, e := b.Receive(a.Journal())
	fmt.Println(many, e)
	_, e = b.Write(api.ControlDraft{Person: "eve", Kind: api.ControlCarry, Key: trip, Text: "1000 0 36000 o1 p10 t1 o3 o0"})
	fmt.Println(e)
	carried, e := control.TripOf(room, b.Journal(), trip)
	fmt.Println(carried, e)
	text := control.FormatJournal(b.Journal())
	fmt.Print(text)
	rest, bytes, e := control.Recover(room, text[:len(text)-1])
	fmt.Println(len(rest), bytes, e)
	all, e := control.Joined(room, rest, b.Journal())
	fmt.Println(len(all), e)
	open, e := control.OpenTrips(room, all)
	fmt.Println(open, e)
	lines, e := control.Day(room, "write a dan order - smith\nwrite a eve order - jones\nlink a b\ntrip b a.0\n")
	fmt.Println(strings.Join(lines, ", "), e)
	// Output:
	// city 0
	// false 0
	// 0
	// 0
	// {{1 a 0} {dan 0 { 0} smith}} 0
	// 0
	// 2 0
	// 0
	// {{a 0} smith car-7 2 350} 0
	// 1 a 0 dan order - smith 324511854
	// 2 a 1 dan assign a.0 car-7 235393749
	// 3 b 0 eve carry a.0 1000 0 36000 o1 p10 t1 o3 o0 871994635
	// 2 71 0
	// 3 0
	// [{a 0}] 0
	// 1 a 0 dan order - smith, error 18, 0 1, smith - ordered 0 0
}
