package dispatch_test

import (
	"fmt"
	"math/rand"
	"testing"

	"fiacre/api"
	"fiacre/dispatch"
)

// TestPlanText is of P5.6 and P5.12: ParsePlan undoes FormatPlan.
func TestPlanText(t *testing.T) {
	gives(t, "FormatPlan", "p=b;q=a")(dispatch.FormatPlan(two(), []int{1, 0}))
	gives(t, "FormatPlan of nobody", "p=-;q=b")(dispatch.FormatPlan(two(), []int{-1, 1}))
	gives(t, "FormatPlan of no orders", "")(dispatch.FormatPlan(api.DispatchRound{}, nil))
	gives(t, "ParsePlan", "[1 0]")(dispatch.ParsePlan(two(), "p=b;q=a"))
	gives(t, "ParsePlan of nobody", "[-1 -1]")(dispatch.ParsePlan(two(), "p=-;q=-"))
	gives(t, "ParsePlan of no orders", "[]")(dispatch.ParsePlan(api.DispatchRound{}, ""))
	r := rand.New(rand.NewSource(62))
	for range 500 {
		x := anyRound(r, 8)
		plan := anyPlan(r, x)
		s, e := dispatch.FormatPlan(x, plan)
		gives(t, fmt.Sprintf("%v, error %d: ParsePlan %q", x, e, s), plan)(dispatch.ParsePlan(x, s))
	}
}

// TestParsePlanErrors is of P5.6: the errors of texts, and which comes first.
func TestParsePlanErrors(t *testing.T) {
	needy := with(func(r *api.DispatchRound) { r.Orders[0].Chair = true })
	orderless := with(func(r *api.DispatchRound) { r.Orders, r.Wait = nil, nil })
	for _, x := range []struct {
		r api.DispatchRound
		s string
		e api.Errno
	}{
		{nameless(), "p=b;q=a", api.ErrName},
		{nameless(), "", api.ErrName},
		{two(), "", api.ErrSyntax},
		{two(), "p=b", api.ErrSyntax},
		{two(), "p=b;q=a;", api.ErrSyntax},
		{two(), ";p=b;q=a", api.ErrSyntax},
		{two(), "p=b;;q=a", api.ErrSyntax},
		{two(), "p=b;q=a;r=-", api.ErrSyntax},
		{two(), "p=b;q", api.ErrSyntax},
		{two(), "p=b;qa", api.ErrSyntax},
		{two(), "p=b;q==a", api.ErrSyntax},
		{two(), "p=b;q=a=", api.ErrSyntax},
		{two(), "p=b;=q=a", api.ErrSyntax},
		{two(), "q=a;p=b", api.ErrSyntax},
		{two(), "p=b;P=a", api.ErrSyntax},
		{two(), "p=b;=a", api.ErrSyntax},
		{two(), "p=b; q=a", api.ErrSyntax},
		{two(), "p =b;q=a", api.ErrSyntax},
		{two(), "p=b;q=a\n", api.ErrMissing},
		{two(), "p=c;q", api.ErrSyntax},    // all pieces are read ahead of the cars
		{two(), "p=b;q=b;", api.ErrSyntax}, // and of the plan
		{two(), "p=b;q=c", api.ErrMissing},
		{two(), "p=b;q=", api.ErrMissing},
		{two(), "p=b;q=A", api.ErrMissing},
		{two(), "p=b;q=--", api.ErrMissing},
		{two(), "p=b;q= a", api.ErrMissing},
		{two(), "p=b;q=-1", api.ErrMissing},
		{two(), "p=b;q=0", api.ErrMissing},
		{two(), "p=b;q=b", api.ErrDouble},
		{needy, "p=b;q=a", api.ErrClash},
		{needy, "p=b;q=c", api.ErrMissing}, // all cars are looked for ahead of the plan
		{orderless, ";", api.ErrSyntax},
		{orderless, "p=b", api.ErrSyntax},
		{orderless, " ", api.ErrSyntax},
	} {
		fails(t, fmt.Sprintf("ParsePlan %q", x.s), x.e)(dispatch.ParsePlan(x.r, x.s))
	}
}
