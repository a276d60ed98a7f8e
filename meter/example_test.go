package meter_test

import (
	"fmt"

	"fiacre/meter"
	"fiacre/tariff"
)

func Example() {
	t, _, _ := tariff.Parse("tariff city 1000 10\nzone town\nrule day 0 100000 town 01234567 0 0 350 5 8\n")
	l, e := meter.ParseLog("1000 0 36000 o1 p10 t1 p10 t1 t98 o3 s360 o0")
	fmt.Println(len(l.Events), e)
	cents, e := meter.Takings(t, l)
	fmt.Println(cents, e)
	first, e := meter.FirstFalse(t, l)
	fmt.Println(first, e)
	x, e := meter.TripOf(t, l, 0)
	fmt.Println(tariff.FormatTrip(x), e)
	// Output:
	// 9 0
	// 350 0
	// {7 -1 -1} 0
	// 0 36000 meter - 0,20,2 0,0,98 0
}
