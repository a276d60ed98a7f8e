package dispatch

import (
	"slices"
	"strings"

	"fiacre/api"
)

// noCar stands in texts for nobody.
const noCar = "-"

// FormatPlan returns the text of a plan.
func FormatPlan(r api.DispatchRound, plan []int) (string, api.Errno) {
	if _, e := planned(r, plan); e != api.OK {
		return "", e
	}
	pieces := make([]string, len(plan))
	for order, car := range plan {
		name := noCar
		if car != api.DispatchNobody {
			name = r.Cars[car].Name
		}
		pieces[order] = r.Orders[order].Name + "=" + name
	}
	return strings.Join(pieces, ";"), api.OK
}

// ParsePlan returns the plan with a text.
func ParsePlan(r api.DispatchRound, s string) ([]int, api.Errno) {
	c, e := checkedOf(r)
	if e != api.OK {
		return nil, e
	}
	names, ok := carNames(r, s)
	if !ok {
		return nil, api.ErrSyntax
	}
	plan := make([]int, len(names))
	for order, name := range names {
		car, known := carNamed(r, name)
		if !known {
			return nil, api.ErrMissing
		}
		plan[order] = car
	}
	if _, e := c.checkPlan(plan); e != api.OK {
		return nil, e
	}
	return plan, api.OK
}

// carNames returns what the text of a plan has of each order behind the "=".
func carNames(r api.DispatchRound, s string) ([]string, bool) {
	var pieces []string
	if s != "" {
		pieces = strings.Split(s, ";")
	}
	if len(pieces) != len(r.Orders) {
		return nil, false
	}
	names := make([]string, len(pieces))
	for i, piece := range pieces {
		parts := strings.Split(piece, "=")
		if len(parts) != 2 || parts[0] != r.Orders[i].Name {
			return nil, false
		}
		names[i] = parts[1]
	}
	return names, true
}

// carNamed returns the car with a name, or DispatchNobody for "-", which is no name.
func carNamed(r api.DispatchRound, name string) (int, bool) {
	if name == noCar {
		return api.DispatchNobody, true
	}
	car := slices.IndexFunc(r.Cars, func(x api.DispatchCar) bool { return x.Name == name })
	return car, car >= 0
}
