package tariff

import (
	"iter"
	"slices"
	"strings"

	"fiacre/api"
	"fiacre/words"
)

// A reading is what has been read of the text of a tariff.
type reading struct {
	tariff api.Tariff
	// lines has, for each list of a tariff, the lines in which its parts stand; that of the tariff itself is the line "tariff".
	lines [api.TariffFixeds + 1][]int
}

// Parse returns the tariff with a text, or where in the text the first error is.
func Parse(s string) (api.Tariff, api.TextMark, api.Errno) {
	if len(s) > api.MaxText {
		return api.Tariff{}, api.TextMark{}, api.ErrLarge
	}
	var r reading
	behind := 1
	for number, line := range linesOf(s) {
		if column, e := r.take(number, line); e != api.OK {
			return api.Tariff{}, api.TextMark{Line: number, Column: column}, e
		}
		behind = number + 1
	}
	if !r.begun() {
		return api.Tariff{}, api.TextMark{Line: behind, Column: 1}, api.ErrMissing
	}
	if mark, e := CheckTariff(r.tariff); e != api.OK {
		return api.Tariff{}, api.TextMark{Line: r.lines[mark.List][mark.Number], Column: 1}, e
	}
	return r.tariff, api.TextMark{}, api.OK
}

// ParseTariff returns the tariff with a text of one line.
func ParseTariff(s string) (api.Tariff, api.Errno) {
	if strings.Contains(s, "\n") {
		return api.Tariff{}, api.ErrSyntax
	}
	t, _, e := Parse(strings.ReplaceAll(s, ";", "\n"))
	return t, e
}

// linesOf yields the lines of a text, with their numbers.
func linesOf(s string) iter.Seq2[int, string] {
	return func(yield func(int, string) bool) {
		number := 0
		for line := range strings.Lines(s) {
			number++
			if !yield(number, strings.TrimSuffix(line, "\n")) {
				return
			}
		}
	}
}

// wordsOf returns a function that returns the next word of a line and its column at each call; behind the last word no word, and the column behind the last one.
func wordsOf(line string) func() (string, int) {
	at, end := 0, 0
	return func() (string, int) {
		for at < len(line) && isBlank(line[at]) {
			at++
		}
		if at == len(line) {
			return "", end + 1
		}
		begin := at
		for at < len(line) && !isBlank(line[at]) {
			at++
		}
		end = at
		return line[begin:end], begin + 1
	}
}

func isBlank(b byte) bool { return b == ' ' || b == '\t' }

// begun tells whether the line "tariff" has been read.
func (r *reading) begun() bool { return len(r.lines[api.TariffItself]) > 0 }

// take reads a line, or returns the column of its first error. A line without words is left out.
func (r *reading) take(number int, line string) (int, api.Errno) {
	next := wordsOf(line)
	first, column := next()
	if first == "" {
		return 0, api.OK
	}
	list, ok := r.listOf(first)
	if !ok {
		return column, api.ErrSyntax
	}
	p, column, e := sayingOf(next, r.form(list)...)
	if e != api.OK {
		return column, e
	}
	r.add(list, p)
	r.lines[list] = append(r.lines[list], number)
	return 0, api.OK
}

// listOf returns the list of the tariff that a line with this first word is about, if it may stand here.
func (r *reading) listOf(first string) (int, bool) {
	if !r.begun() {
		return api.TariffItself, first == wordTariff
	}
	switch first {
	case wordZone:
		return api.TariffZones, true
	case wordHoliday:
		return api.TariffHolidays, true
	case wordRule:
		return api.TariffRules, true
	case wordExtra:
		return api.TariffExtras, true
	case wordFixed:
		return api.TariffFixeds, true
	}
	return 0, false
}

// A teller tells what a word says: a string, an int, a zoneList or a dayList, or as an api.Errno what is wrong with it.
type teller func(word string) any

type (
	zoneList []int
	dayList  []int
)

// form returns the tellers of the words behind the first one, for a line about a list.
func (r *reading) form(list int) []teller {
	switch list {
	case api.TariffItself:
		return []teller{tellName, tellNumber, tellNumber}
	case api.TariffZones:
		return []teller{tellName}
	case api.TariffHolidays:
		return []teller{tellNumber}
	case api.TariffRules:
		return []teller{tellName, tellNumber, tellNumber, r.tellZones, tellDays,
			tellNumber, tellNumber, tellNumber, tellNumber, tellNumber}
	case api.TariffExtras:
		return []teller{tellName, tellNumber}
	}
	return []teller{r.tellZone, r.tellZone, tellNumber}
}

func tellName(word string) any {
	if !words.IsName(word) {
		return api.ErrName
	}
	return word
}

func tellNumber(word string) any {
	n, ok := words.Number(word, maxDigits)
	if !ok || n < 0 {
		return api.ErrSyntax
	}
	return n
}

func tellDays(word string) any {
	var days dayList
	for i := range len(word) {
		if word[i] < '0' || word[i] > '0'+api.TariffHoliday {
			return api.ErrSyntax
		}
		days = append(days, int(word[i]-'0'))
	}
	return days
}

func (r *reading) tellZone(word string) any {
	if !words.IsName(word) {
		return api.ErrName
	}
	zone := slices.Index(r.tariff.Zones, word)
	if zone < 0 {
		return api.ErrMissing
	}
	return zone
}

// tellZones looks at all names ahead of all zones: a part that is no name is an error ahead of one that is no zone.
func (r *reading) tellZones(word string) any {
	parts := strings.Split(word, ",")
	for _, part := range parts {
		if !words.IsName(part) {
			return api.ErrName
		}
	}
	var zones zoneList
	for _, part := range parts {
		zone := slices.Index(r.tariff.Zones, part)
		if zone < 0 {
			return api.ErrMissing
		}
		zones = append(zones, zone)
	}
	return zones
}

// A saying is what the words of a line say, by what they are.
type saying struct {
	names   []string
	numbers []int
	zones   zoneList
	days    dayList
}

// keep adds what is told of a word, or returns what is wrong with it.
func (p *saying) keep(told any) api.Errno {
	switch x := told.(type) {
	case api.Errno:
		return x
	case string:
		p.names = append(p.names, x)
	case int:
		p.numbers = append(p.numbers, x)
	case zoneList:
		p.zones = x
	case dayList:
		p.days = x
	}
	return api.OK
}

// sayingOf reads as many words as there are tellers, and no more, or returns the column of the first error.
func sayingOf(next func() (string, int), tellers ...teller) (saying, int, api.Errno) {
	var p saying
	for _, tell := range tellers {
		word, column := next()
		if word == "" {
			return saying{}, column, api.ErrMissing
		}
		if e := p.keep(tell(word)); e != api.OK {
			return saying{}, column, e
		}
	}
	if word, column := next(); word != "" {
		return saying{}, column, api.ErrSyntax
	}
	return p, 0, api.OK
}

// add adds what a line says to the tariff.
func (r *reading) add(list int, p saying) {
	t, n := &r.tariff, p.numbers
	switch list {
	case api.TariffItself:
		t.Name, t.Unit, t.Step = p.names[0], n[0], n[1]
	case api.TariffZones:
		t.Zones = append(t.Zones, p.names[0])
	case api.TariffHolidays:
		t.Holidays = append(t.Holidays, n[0])
	case api.TariffRules:
		t.Rules = append(t.Rules, api.TariffRule{
			Name: p.names[0], From: n[0], To: n[1], Zones: p.zones, Days: p.days,
			Begin: n[2], End: n[3], Start: n[4], Metre: n[5], Second: n[6],
		})
	case api.TariffExtras:
		t.Extras = append(t.Extras, api.TariffExtra{Name: p.names[0], Amount: n[0]})
	case api.TariffFixeds:
		t.Fixed = append(t.Fixed, api.TariffFixed{From: n[0], To: n[1], Amount: n[2]})
	}
}
