package duty

import (
	"strings"

	"fiacre/api"
	"fiacre/words"
)

// timeDigits is how many digits a time in a text has at most.
const timeDigits = 11

// FormatRecord returns the text of a record.
func FormatRecord(x api.DutyRecord) string {
	return x.Driver + " " + words.Joined(" ", x.From, x.To)
}

// ParseRecord returns the record with a text.
func ParseRecord(s string) (api.DutyRecord, api.Errno) {
	driver, times, _ := strings.Cut(s, " ")
	first, second, _ := strings.Cut(times, " ")
	from, isFrom := words.Number(first, timeDigits)
	to, isTo := words.Number(second, timeDigits)
	if driver == "" || !isFrom || !isTo {
		return api.DutyRecord{}, api.ErrSyntax
	}
	x := api.DutyRecord{Driver: driver, From: from, To: to}
	if e := errorOfRecord(x); e != api.OK {
		return api.DutyRecord{}, e
	}
	return x, api.OK
}
