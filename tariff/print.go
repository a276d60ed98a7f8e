package tariff

import (
	"strconv"
	"strings"

	"fiacre/api"
	"fiacre/words"
)

// The first words of the lines of a tariff's text.
const (
	wordTariff  = "tariff"
	wordZone    = "zone"
	wordHoliday = "holiday"
	wordRule    = "rule"
	wordExtra   = "extra"
)

// Print returns the text of a tariff in its language.
func Print(t api.Tariff) (string, api.Errno) {
	if e := errorOfTariff(t); e != api.OK {
		return "", e
	}
	var b strings.Builder
	printLine(&b, wordTariff, t.Name, words.Joined(" ", t.Unit, t.Step))
	for _, zone := range t.Zones {
		printLine(&b, wordZone, zone)
	}
	for _, date := range t.Holidays {
		printLine(&b, wordHoliday, strconv.Itoa(date))
	}
	for _, r := range t.Rules {
		printLine(&b, wordRule, r.Name, words.Joined(" ", r.From, r.To), zonesText(t, r), words.Joined("", r.Days...),
			words.Joined(" ", r.Begin, r.End, r.Start, r.Metre, r.Second))
	}
	for _, x := range t.Extras {
		printLine(&b, wordExtra, x.Name, strconv.Itoa(x.Amount))
	}
	for _, f := range t.Fixed {
		printLine(&b, wordFixed, t.Zones[f.From], t.Zones[f.To], strconv.Itoa(f.Amount))
	}
	return b.String(), api.OK
}

func printLine(b *strings.Builder, parts ...string) {
	b.WriteString(strings.Join(parts, " "))
	b.WriteByte('\n')
}

func zonesText(t api.Tariff, r api.TariffRule) string {
	names := make([]string, len(r.Zones))
	for i, zone := range r.Zones {
		names[i] = t.Zones[zone]
	}
	return strings.Join(names, ",")
}

// FormatTariff returns the text of a tariff in one line, or nothing if the tariff is not right.
func FormatTariff(t api.Tariff) string {
	s, e := Print(t)
	if e != api.OK {
		return ""
	}
	return strings.ReplaceAll(strings.TrimSuffix(s, "\n"), "\n", ";")
}
