package found

import (
	"slices"
	"strconv"
	"strings"

	"fiacre/api"
	"fiacre/words"
)

// kindWords is the words of the kinds of events.
var kindWords = [...]string{
	api.FoundStored:   "stored",
	api.FoundMoved:    "moved",
	api.FoundReturned: "returned",
	api.FoundTaken:    "taken",
	api.FoundSold:     "sold",
}

// dayDigits is how many digits a day in a text has at most.
const dayDigits = 9

// FormatItem returns the text of an item.
func FormatItem(x api.FoundItem) string {
	text := []string{x.Name, strconv.Itoa(x.Day), x.Finder}
	for _, mark := range x.Marks {
		text = append(text, mark.Key+"="+mark.Value)
	}
	return strings.Join(text, " ")
}

// ParseItem returns the item with a text.
func ParseItem(s string) (api.FoundItem, api.Errno) {
	list, ok := parsedWords(s)
	if !ok || len(list) < 3 {
		return api.FoundItem{}, api.ErrSyntax
	}
	day, isDay := words.Number(list[1], dayDigits)
	marks, areMarks := parsedMarks(list[3:])
	if !isDay || !areMarks {
		return api.FoundItem{}, api.ErrSyntax
	}
	x := api.FoundItem{Name: list[0], Day: day, Finder: list[2], Marks: marks}
	if e := CheckItem(x); e != api.OK {
		return api.FoundItem{}, e
	}
	return x, api.OK
}

func parsedMarks(list []string) ([]api.FoundMark, bool) {
	var marks []api.FoundMark
	for _, word := range list {
		key, value, _ := strings.Cut(word, "=")
		if key == "" || value == "" || strings.Contains(value, "=") {
			return nil, false
		}
		marks = append(marks, api.FoundMark{Key: key, Value: value})
	}
	return marks, true
}

// FormatEvent returns the text of an event.
func FormatEvent(x api.FoundEvent) string {
	if !isKind(x.Kind) {
		return ""
	}
	return strings.Join([]string{x.Item, strconv.Itoa(x.Day), kindWords[x.Kind], x.From, x.To}, " ")
}

// ParseEvent returns the event with a text.
func ParseEvent(s string) (api.FoundEvent, api.Errno) {
	list, ok := parsedWords(s)
	if !ok || len(list) != 5 {
		return api.FoundEvent{}, api.ErrSyntax
	}
	day, isDay := words.Number(list[1], dayDigits)
	kind := slices.Index(kindWords[:], list[2])
	if !isDay || !isKind(kind) {
		return api.FoundEvent{}, api.ErrSyntax
	}
	x := api.FoundEvent{Item: list[0], Day: day, Kind: kind, From: list[3], To: list[4]}
	if !areNames(x.Item, x.From, x.To) {
		return api.FoundEvent{}, api.ErrName
	}
	if e := errorOfDay(day, 0); e != api.OK {
		return api.FoundEvent{}, e
	}
	return x, api.OK
}

// parsedWords returns the words of a text with single blanks between.
func parsedWords(s string) ([]string, bool) {
	list := strings.Split(s, " ")
	return list, !slices.Contains(list, "")
}
