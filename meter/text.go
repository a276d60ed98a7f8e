package meter

import (
	"strconv"
	"strings"

	"fiacre/api"
	"fiacre/check"
	"fiacre/words"
)

const (
	// letters has the letter of each kind of events.
	letters  = "ptozxsc"
	noLetter = "?"

	// maxDigits is how many digits the numbers in the text of a log have at most.
	maxDigits = 10
	// headWords is how many words stand ahead of those of the events.
	headWords = 3
)

// FormatLog returns the text of a log, whatever it is.
func FormatLog(l api.MeterLog) string {
	parts := []string{words.Joined(" ", l.Constant, l.At.Date, l.At.Time)}
	for _, event := range l.Events {
		parts = append(parts, letterOf(event.Kind)+strconv.Itoa(event.N))
	}
	return strings.Join(parts, " ")
}

func letterOf(kind int) string {
	if !check.Within(kind, 0, len(letters)-1) {
		return noLetter
	}
	return letters[kind : kind+1]
}

// ParseLog returns the log with a text.
func ParseLog(s string) (api.MeterLog, api.Errno) {
	parts := strings.Split(s, " ")
	if len(parts) < headWords {
		return api.MeterLog{}, api.ErrSyntax
	}
	var head [headWords]int
	for i := range head {
		n, ok := words.Number(parts[i], maxDigits)
		if !ok {
			return api.MeterLog{}, api.ErrSyntax
		}
		head[i] = n
	}
	l := api.MeterLog{Constant: head[0], At: api.Moment{Date: head[1], Time: head[2]}}
	for _, part := range parts[headWords:] {
		event, ok := eventIn(part)
		if !ok {
			return api.MeterLog{}, api.ErrSyntax
		}
		l.Events = append(l.Events, event)
	}
	return l, api.OK
}

func eventIn(word string) (api.MeterEvent, bool) {
	if word == "" {
		return api.MeterEvent{}, false
	}
	kind := strings.IndexByte(letters, word[0])
	n, ok := words.Number(word[1:], maxDigits)
	if kind < 0 || !ok || n < 0 {
		return api.MeterEvent{}, false
	}
	return api.MeterEvent{Kind: kind, N: n}, true
}
