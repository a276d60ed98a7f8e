package tariff_test

import (
	"fmt"
	"testing"

	"fiacre/api"
	"fiacre/tariff"
)

// TestTariffs is of P1.1.
func TestTariffs(t *testing.T) {
	for _, c := range []api.Tariff{city(), plain(1, 0, 0, 0, 0), plain(api.MaxTariffUnit, api.MaxTariffAmount, api.MaxTariffAmount, api.MaxTariffRate, api.MaxTariffRate)} {
		mark, e := tariff.CheckTariff(c)
		want(t, "CheckTariff "+c.Name, mark, e, api.TariffMark{}, api.OK)
	}
	none := api.TariffMark{}
	zone := func(n int) api.TariffMark { return api.TariffMark{List: api.TariffZones, Number: n} }
	holiday := func(n int) api.TariffMark { return api.TariffMark{List: api.TariffHolidays, Number: n} }
	rule := func(n int) api.TariffMark { return api.TariffMark{List: api.TariffRules, Number: n} }
	extra := func(n int) api.TariffMark { return api.TariffMark{List: api.TariffExtras, Number: n} }
	fixed := func(n int) api.TariffMark { return api.TariffMark{List: api.TariffFixeds, Number: n} }
	for _, x := range []struct {
		what   string
		change func(c *api.Tariff)
		mark   api.TariffMark
		e      api.Errno
	}{
		{"no name", func(c *api.Tariff) { c.Name = "" }, none, api.ErrName},
		{"a long name", func(c *api.Tariff) { c.Name = "abcdefghijklm" }, none, api.ErrName},
		{"a name ahead of a unit", func(c *api.Tariff) { c.Name, c.Unit = "9", 0 }, none, api.ErrName},
		{"unit 0", func(c *api.Tariff) { c.Unit = 0 }, none, api.ErrRange},
		{"unit too great", func(c *api.Tariff) { c.Unit = api.MaxTariffUnit + 1 }, none, api.ErrRange},
		{"step below 0", func(c *api.Tariff) { c.Step = -1 }, none, api.ErrRange},
		{"step too great", func(c *api.Tariff) { c.Step = api.MaxTariffAmount + 1 }, none, api.ErrRange},
		{"a step ahead of zones", func(c *api.Tariff) { c.Step, c.Zones = -1, nil }, none, api.ErrRange},
		{"no zones", func(c *api.Tariff) { c.Zones = nil }, none, api.ErrShape},
		{"seven zones", func(c *api.Tariff) { c.Zones = []string{"a", "a", "c", "d", "e", "f", "g"} }, none, api.ErrLarge},
		{"a zone without a name", func(c *api.Tariff) { c.Zones[1] = "port town" }, zone(1), api.ErrName},
		{"a zone twice", func(c *api.Tariff) { c.Zones[1] = "town" }, zone(1), api.ErrExists},
		{"zones ahead of holidays", func(c *api.Tariff) { c.Zones[1], c.Holidays[0] = "town", -1 }, zone(1), api.ErrExists},
		{"21 holidays", func(c *api.Tariff) { c.Holidays = make([]int, 21) }, none, api.ErrLarge},
		{"a holiday below 0", func(c *api.Tariff) { c.Holidays[0] = -1 }, holiday(0), api.ErrRange},
		{"a holiday too late", func(c *api.Tariff) { c.Holidays = []int{7, api.MaxDate + 1} }, holiday(1), api.ErrRange},
		{"a holiday twice", func(c *api.Tariff) { c.Holidays = []int{7, 7} }, holiday(1), api.ErrOrder},
		{"a range ahead of an order", func(c *api.Tariff) { c.Holidays = []int{7, -1} }, holiday(1), api.ErrRange},
		{"13 rules", func(c *api.Tariff) { c.Rules = make([]api.TariffRule, 13) }, none, api.ErrLarge},
		{"a rule without a name", func(c *api.Tariff) { c.Rules[0].Name = "-a" }, rule(0), api.ErrName},
		{"a rule twice", func(c *api.Tariff) { c.Rules[1].Name, c.Rules[1].From = "day", -1 }, rule(1), api.ErrExists},
		{"from below 0", func(c *api.Tariff) { c.Rules[1].From = -1 }, rule(1), api.ErrRange},
		{"to too late", func(c *api.Tariff) { c.Rules[1].To = api.MaxDate + 1 }, rule(1), api.ErrRange},
		{"from behind to", func(c *api.Tariff) { c.Rules[1].From, c.Rules[1].To, c.Rules[1].Zones = 5, 4, nil }, rule(1), api.ErrOrder},
		{"a rule of no zones", func(c *api.Tariff) { c.Rules[1].Zones = nil }, rule(1), api.ErrShape},
		{"a rule of no days", func(c *api.Tariff) { c.Rules[1].Zones, c.Rules[1].Days = []int{5}, nil }, rule(1), api.ErrShape},
		{"a rule of a zone that is none", func(c *api.Tariff) { c.Rules[1].Zones = []int{1, 2} }, rule(1), api.ErrMissing},
		{"a rule of a zone below 0", func(c *api.Tariff) { c.Rules[1].Zones = []int{1, -1} }, rule(1), api.ErrMissing},
		{"a rule of a zone twice", func(c *api.Tariff) { c.Rules[1].Zones = []int{1, 1, 2} }, rule(1), api.ErrOrder},
		{"a day 8", func(c *api.Tariff) { c.Rules[1].Days = []int{0, 8} }, rule(1), api.ErrRange},
		{"days that fall", func(c *api.Tariff) { c.Rules[1].Days, c.Rules[1].Begin = []int{1, 0}, -1 }, rule(1), api.ErrOrder},
		{"begin below 0", func(c *api.Tariff) { c.Rules[1].Begin = -1 }, rule(1), api.ErrRange},
		{"begin at the day's end", func(c *api.Tariff) { c.Rules[1].Begin = api.Day }, rule(1), api.ErrRange},
		{"end below 0", func(c *api.Tariff) { c.Rules[1].End = -1 }, rule(1), api.ErrRange},
		{"end too late", func(c *api.Tariff) { c.Rules[1].End = api.Day + 1 }, rule(1), api.ErrRange},
		{"start below 0", func(c *api.Tariff) { c.Rules[1].Start = -1 }, rule(1), api.ErrRange},
		{"start too great", func(c *api.Tariff) { c.Rules[1].Start = api.MaxTariffAmount + 1 }, rule(1), api.ErrRange},
		{"metre below 0", func(c *api.Tariff) { c.Rules[1].Metre = -1 }, rule(1), api.ErrRange},
		{"metre too great", func(c *api.Tariff) { c.Rules[1].Metre = api.MaxTariffRate + 1 }, rule(1), api.ErrRange},
		{"second below 0", func(c *api.Tariff) { c.Rules[1].Second = -1 }, rule(1), api.ErrRange},
		{"second too great", func(c *api.Tariff) { c.Rules[1].Second = api.MaxTariffRate + 1 }, rule(1), api.ErrRange},
		{"the first rule first", func(c *api.Tariff) { c.Rules[0].Second, c.Rules[1].Name = -1, "" }, rule(0), api.ErrRange},
		{"seven supplements", func(c *api.Tariff) { c.Extras = make([]api.TariffExtra, 7) }, none, api.ErrLarge},
		{"a supplement without a name", func(c *api.Tariff) { c.Extras[0].Name = "a_b" }, extra(0), api.ErrName},
		{"a supplement twice", func(c *api.Tariff) { c.Extras = append(c.Extras, api.TariffExtra{Name: "bag", Amount: -1}) }, extra(1), api.ErrExists},
		{"a supplement below 0", func(c *api.Tariff) { c.Extras[0].Amount = -1 }, extra(0), api.ErrRange},
		{"a supplement too great", func(c *api.Tariff) { c.Extras[0].Amount = api.MaxTariffAmount + 1 }, extra(0), api.ErrRange},
		{"17 fixed fares", func(c *api.Tariff) { c.Fixed = make([]api.TariffFixed, 17) }, none, api.ErrLarge},
		{"fixed from no zone", func(c *api.Tariff) { c.Fixed[0].From = 2 }, fixed(0), api.ErrMissing},
		{"fixed to no zone", func(c *api.Tariff) { c.Fixed[0].To, c.Fixed[0].Amount = -1, -1 }, fixed(0), api.ErrMissing},
		{"fixed below 0", func(c *api.Tariff) { c.Fixed[0].Amount = -1 }, fixed(0), api.ErrRange},
		{"fixed too great", func(c *api.Tariff) { c.Fixed[0].Amount = api.MaxTariffAmount + 1 }, fixed(0), api.ErrRange},
		{"fixed twice", func(c *api.Tariff) { c.Fixed = append(c.Fixed, api.TariffFixed{To: 1}) }, fixed(1), api.ErrExists},
		{"fixed twice, and below 0", func(c *api.Tariff) { c.Fixed = append(c.Fixed, api.TariffFixed{To: 1, Amount: -1}) }, fixed(1), api.ErrRange},
	} {
		c := city()
		x.change(&c)
		mark, e := tariff.CheckTariff(c)
		want(t, "CheckTariff of "+x.what, mark, e, x.mark, x.e)
	}
}

// TestFullTariff is of P1.1: as much of everything as there may be.
func TestFullTariff(t *testing.T) {
	c := plain(1, 1, 1, 1, 1)
	c.Name = "Abcdefghi-12"
	c.Zones, c.Rules = nil, nil
	for i := range api.MaxTariffZones {
		c.Zones = append(c.Zones, fmt.Sprint("z", i))
	}
	for i := range api.MaxTariffHolidays {
		c.Holidays = append(c.Holidays, api.MaxDate-api.MaxTariffHolidays+1+i)
	}
	for i := range api.MaxTariffRules {
		c.Rules = append(c.Rules, api.TariffRule{
			Name: fmt.Sprint("r", i), From: api.MaxDate, To: api.MaxDate, Zones: []int{0, 1, 2, 3, 4, 5}, Days: days(), Begin: api.Day - 1, End: api.Day,
		})
	}
	for i := range api.MaxTariffExtras {
		c.Extras = append(c.Extras, api.TariffExtra{Name: fmt.Sprint("x", i), Amount: api.MaxTariffAmount})
	}
	for i := range api.MaxTariffFixed {
		c.Fixed = append(c.Fixed, api.TariffFixed{From: i / 6, To: i % 6, Amount: api.MaxTariffAmount})
	}
	mark, e := tariff.CheckTariff(c)
	want(t, "CheckTariff of a full one", mark, e, api.TariffMark{}, api.OK)
}
