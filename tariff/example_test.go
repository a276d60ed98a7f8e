package tariff_test

import (
	"fmt"

	"fiacre/tariff"
)

func Example() {
	t, mark, e := tariff.Parse("tariff city 1000 10\nzone town\nrule day 0 100000 town 01234567 0 0 350 5 8\n")
	fmt.Println(t.Name, mark, e)
	x, e := tariff.ParseTrip("0 36000 meter - 0,1000,100")
	fmt.Println(len(x.Segments), e)
	fare, e := tariff.FareOf(t, x)
	fmt.Println(fare.Total, e)
	_, mark, e = tariff.Parse("tariff city 1000 10\nzone 9\n")
	fmt.Println(mark, e)
	// Output:
	// city {0 0} 0
	// 1 0
	// 400 0
	// {2 6} 4
}
