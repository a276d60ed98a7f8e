package check_test

import (
	"math"
	"testing"

	"fiacre/api"
	"fiacre/check"
)

func TestFirst(t *testing.T) {
	for _, x := range []struct {
		errors []api.Errno
		wanted api.Errno
	}{
		{nil, api.OK},
		{[]api.Errno{api.OK, api.OK}, api.OK},
		{[]api.Errno{api.OK, api.ErrOrder, api.ErrName, api.OK}, api.ErrOrder},
	} {
		if e := check.First(x.errors...); e != x.wanted {
			t.Errorf("the first one of %v: %d, want %d", x.errors, e, x.wanted)
		}
	}
}

func TestWithin(t *testing.T) {
	for n, wanted := range map[int]bool{-2: false, -1: true, 0: true, 3: true, 4: false, math.MinInt: false, math.MaxInt: false} {
		if check.Within(n, -1, 3) != wanted {
			t.Errorf("%d from -1 to 3: want %t", n, wanted)
		}
	}
	if check.Within(0, 0, -1) {
		t.Error("0 is in an empty range")
	}
}

func TestList(t *testing.T) {
	errors := []api.Errno{api.OK, api.OK, api.ErrName, api.ErrRange}
	for _, x := range []struct {
		many, most, number int
		wanted             api.Errno
	}{
		{0, 0, 0, api.OK},
		{2, 2, 0, api.OK},
		{2, 1, 0, api.ErrLarge},
		{3, 4, 2, api.ErrName},
		{4, 4, 2, api.ErrName},
		{4, 3, 0, api.ErrLarge},
	} {
		if i, e := check.List(x.many, x.most, func(i int) api.Errno { return errors[i] }); i != x.number || e != x.wanted {
			t.Errorf("%d of at most %d: the error %d at %d, want %d at %d", x.many, x.most, e, i, x.wanted, x.number)
		}
	}
}
