package control_test

import (
	"fmt"
	"math/rand"
	"regexp"
	"slices"
	"strconv"
	"strings"
	"testing"

	"fiacre/api"
	"fiacre/control"
)

// script is lines, each ended by a line feed.
func script(lines ...string) string {
	if len(lines) == 0 {
		return ""
	}
	return strings.Join(lines, "\n") + "\n"
}

// day wants a script to have these lines, given in turn: what the script says, and its line.
func day(t *testing.T, s api.ControlSetup, turns ...string) {
	t.Helper()
	var asked, wanted []string
	for i := 0; i < len(turns); i += 2 {
		asked, wanted = append(asked, turns[i]), append(wanted, turns[i+1])
	}
	got, e := control.Day(s, script(asked...))
	for i := range got {
		if i < len(wanted) && got[i] != wanted[i] {
			t.Errorf("%q has the line %q, want %q", asked[i], got[i], wanted[i])
		}
	}
	if len(got) != len(wanted) || e != api.OK {
		t.Errorf("%d lines, error %d; want %d", len(got), e, len(wanted))
	}
}

func failure(e api.Errno) string { return fmt.Sprintf("error %d", e) }

// TestDay is of P10.7: the document's first two examples.
func TestDay(t *testing.T) {
	turns := []string{
		"write a dan order - smith", "1 a 0 dan order - smith",
		"write a dan assign a.0 car-7", "2 a 1 dan assign a.0 car-7",
		"link a b", "0 2",
		"write b eve carry a.0 " + log, "3 b 0 eve carry a.0 " + log,
		"write b flo bill a.0 350", "4 b 1 flo bill a.0 350",
		"link a b", "2 0",
		"trip a a.0", "smith car-7 billed 350",
		"takings b", "350",
	}
	day(t, setup(), turns...)
	turns[8], turns[9], turns[13], turns[15] = "write b flo bill a.0 360", "4 b 1 flo bill a.0 360", "smith car-7 carried 350", "0"
	day(t, setup(), turns...)
	day(t, setup(), "write b eve order - jones", failure(api.ErrAllowed))
	day(t, setup())
	day(t, setup(), "", failure(api.ErrSyntax), "takings a", "0", "", failure(api.ErrSyntax))
}

// TestDayOfTrips is of P10.7: lines of trips in all states.
func TestDayOfTrips(t *testing.T) {
	day(t, setup(),
		"trip a a.0", failure(api.ErrMissing),
		"write a dan order - smith", "1 a 0 dan order - smith",
		"trip a a.0", "smith - ordered 0",
		"trip b a.0", failure(api.ErrMissing),
		"write a dan assign a.0 car-7", "2 a 1 dan assign a.0 car-7",
		"trip a a.0", "smith car-7 assigned 0",
		"write a dan order - jones", "3 a 2 dan order - jones",
		"write a dan assign a.2 car-7", "4 a 3 dan assign a.2 car-7",
		"trip a a.2", "jones - ordered 0",
		"write a dan cancel a.2 -", "5 a 4 dan cancel a.2 -",
		"trip a a.2", "jones - cancelled 0",
		"write a eve carry a.0 "+dear, "6 a 5 eve carry a.0 "+dear,
		"trip a a.0", "smith car-7 carried 400",
		"takings a", "0",
		"write a flo bill a.0 400", "7 a 6 flo bill a.0 400",
		"trip a a.0", "smith car-7 billed 400",
		"takings a", "400",
		"takings b", "0",
		"link b a", "7 0",
		"takings b", "400",
		"trip b a.2", "jones - cancelled 0",
		"trip b a.1", failure(api.ErrMissing),
		"trip b zz.0", failure(api.ErrMissing),
		"trip b a.999999", failure(api.ErrMissing),
		"trip b a.-1", failure(api.ErrMissing),
	)
	day(t, dearSetup(99999), slices.Concat(dearTrip(0), dearTrip(4), []string{"takings a", failure(api.ErrLarge), "trip a a.4", "p x billed 999999999"})...)
}

// dearTrip is lines that order, carry and bill a trip of 999999999 cents, which is ordered by the entry of this number.
func dearTrip(number int) []string {
	var turns []string
	for i, text := range []string{"order - p", "assign a.%d x", "carry a.%d 1000 0 36000 o1 t3600 t3600 t2799 o3 o0", "bill a.%d 999999999"} {
		text = "ida " + strings.Replace(text, "%d", fmt.Sprint(number), 1)
		turns = append(turns, "write a "+text, fmt.Sprintf("%d a %d %s", number+i+1, number+i, text))
	}
	return turns
}

// TestDayOfLinks is of P10.7: desks that were apart, links, and links that are not made.
func TestDayOfLinks(t *testing.T) {
	day(t, setup(),
		"link a b", "0 0",
		"write a dan order - smith", "1 a 0 dan order - smith",
		"link b a", "1 0",
		"write b dan order - jones", "2 b 0 dan order - jones",
		"link a b", "1 0",
		"write a dan assign a.0 car-7", "3 a 1 dan assign a.0 car-7",
		"write b dan assign b.0 car-7", "3 b 1 dan assign b.0 car-7",
		"trip b b.0", "jones car-7 assigned 0",
		"write B-3 hal item - hat 10 ann", "1 B-3 0 hal item - hat 10 ann",
		"link B-3 b", "3 1",
		"link a B-3", "2 1",
		"trip a b.0", "jones - ordered 0",
		"trip B-3 b.0", "jones - ordered 0",
		"trip b b.0", "jones car-7 assigned 0",
		"trip a a.0", "smith car-7 assigned 0",
		"link b b", failure(api.ErrForm),
		"link zz zz", failure(api.ErrMissing),
		"link b zz", failure(api.ErrMissing),
		"link zz b", failure(api.ErrMissing),
	)
}

// TestDayOfCrashes is of P10.7: what a desk has behind a crash, and goes on with.
func TestDayOfCrashes(t *testing.T) {
	line := len(slowText(example()[:1]))
	day(t, setup(),
		"crash a 0", "0",
		"crash a 99999", "0",
		"write a dan order - smith", "1 a 0 dan order - smith",
		"write a dan assign a.0 car-7", "2 a 1 dan assign a.0 car-7",
		"link b a", "2 0",
		"crash a 99999", "2",
		"crash a "+fmt.Sprint(len(slowText(example()[:2]))), "2",
		"crash a "+fmt.Sprint(len(slowText(example()[:2]))-1), "1",
		"trip a a.0", "smith - ordered 0",
		"trip b a.0", "smith car-7 assigned 0",
		"link a b", "1 0",
		"trip a a.0", "smith car-7 assigned 0",
		"crash a "+fmt.Sprint(line), "1",
		"write a dan cancel a.0 -", "2 a 1 dan cancel a.0 -",
		"link a b", failure(api.ErrClash),
		"link b a", failure(api.ErrClash),
		"trip a a.0", "smith - cancelled 0",
		"trip b a.0", "smith car-7 assigned 0",
		"crash a "+fmt.Sprint(line-1), "0",
		"trip a a.0", failure(api.ErrMissing),
		"link a b", "2 0",
		"crash zz 0", failure(api.ErrMissing),
		"crash b 0", "0",
		"write b dan order - p", "1 b 0 dan order - p",
		"link a b", "1 2",
		"trip b a.0", "smith car-7 assigned 0",
		"trip b b.0", "p - ordered 0",
	)
}

// TestDayErrors is of P10.7: lines that have not the form, and those whose desks, kinds or texts are not right.
func TestDayErrors(t *testing.T) {
	for _, line := range []string{
		" ", "x", "writes a dan order - smith", "Write a dan order - smith", " write a dan order - smith", "\twrite a dan order - smith",
		"write", "write ", "write a", "write a dan order -", "write a dan order - ", "write a dan order", "write  a dan order - smith", "write a  dan order - smith", "write a dan  order - smith", "write a dan order  - smith", "write a dan order  smith", "write zz nobody none", "write  dan order - smith",
		"write a dan order x smith", "write a dan order a.00 smith", "write a dan order .0 smith", "write a dan order a.1000000 smith", "write a dan order a.0.0 smith", "write zz nobody none x y", "write a dan assign a.+1 x", "write a dan assign -- x",
		"link", "link ", "link a", "link a ", "link  a b", "link a  b", "link a b ", "link a b c", "link zz", "link a b\t c",
		"crash", "crash a", "crash a ", "crash 5", "crash  a 5", "crash a  5", "crash a 5 ", "crash a 5 5", "crash a -1", "crash a -0", "crash a 05", "crash a +5", "crash a x", "crash a 100000", "crash a 5.0", "crash zz x", "crash  5", "crash a -99999",
		"trip", "trip a", "trip a ", "trip  a a.0", "trip a  a.0", "trip a a.0 ", "trip a a.0 b", "trip a -", "trip zz -", "trip a a", "trip a .0", "trip a a.", "trip a a.00", "trip a a.1000000", "trip a a.0.0", "trip a.0 a", "trip  a.0",
		"takings", "takings ", "takings  a", "takings a ", "takings a b", "takings\ta",
		"",
	} {
		day(t, setup(), line, failure(api.ErrSyntax))
	}
	for line, e := range map[string]api.Errno{
		"write zz nobody none a.0 7": api.ErrMissing, "write A dan order - smith": api.ErrMissing, "write\t a dan order - x": api.ErrSyntax,
		"write a nobody none a.0 7": api.ErrKind, "write a dan Order - smith": api.ErrKind, "write a dan 0 - smith": api.ErrKind, "write a dan - - smith": api.ErrKind, "write a dan none zz.99 7": api.ErrKind,
		"write a nobody order a.0 7": api.ErrMissing, "write a eve order a.0 7": api.ErrAllowed, "write a dan assign zz.99 7": api.ErrMissing, "write a dan assign - 7": api.ErrMissing, "write a dan assign a.99 7": api.ErrRange, "write a dan assign a.-1 7": api.ErrRange, "write a dan order a.0 7": api.ErrForm, "write a dan order - 7": api.ErrName,
		"write a dan order -  smith": api.ErrName, "write a dan order - smith ": api.ErrName, "write a dan order - a b": api.ErrName, "write a dan order - smith\r": api.ErrName, "write a dan cancel a.0  -": api.ErrSyntax, "write a dan order - " + strings.Repeat("a", 401): api.ErrLarge, "write a flo bill a.0 -5": api.ErrRange, "write a eve carry a.0 1000 0 36000": api.ErrShape,
		"link zz b": api.ErrMissing, "link a zz": api.ErrMissing, "link a a": api.ErrForm, "link A A": api.ErrMissing, "link a\t b": api.ErrMissing,
		"crash zz 5": api.ErrMissing, "trip zz a.0": api.ErrMissing, "trip a a.0": api.ErrMissing, "trip a zz.0": api.ErrMissing, "takings zz": api.ErrMissing, "takings a\t": api.ErrMissing, "takings a\r": api.ErrMissing,
	} {
		day(t, setup(), line, failure(e), "crash a 99999", "0", "crash b 99999", "0")
	}
}

// TestDayOfMany is of P10.7: as many entries as a script can have, and links of them.
func TestDayOfMany(t *testing.T) {
	var turns []string
	for i := range 60 {
		turns = append(turns, "write a dan order - p", fmt.Sprintf("%d a %d dan order - p", i+1, i))
	}
	day(t, setup(), turns...)
	day(t, setup(), append(turns[:118:118], "link a b", "0 59")...)
	for i := range 29 {
		turns[60+2*i], turns[61+2*i] = "write b dan order - q", fmt.Sprintf("%d b %d dan order - q", i+1, i)
	}
	day(t, setup(), append(turns[:118:118], "link a b", "29 30")...)
}

// TestDayLimits is of P10.7: scripts that are too long, or do not end.
func TestDayLimits(t *testing.T) {
	gives(t, "nothing", "[]")(control.Day(setup(), ""))
	gives(t, "an empty line", "[error 7]")(control.Day(setup(), "\n"))
	for _, s := range []string{"takings a", "\n ", "takings a\ntakings b", "\r", strings.Repeat("\n", 60) + "x", strings.Repeat("x", 60000)} {
		fails(t, fmt.Sprintf("%.20q", s), api.ErrSyntax)(control.Day(setup(), s))
	}
	for _, s := range []string{strings.Repeat("\n", 61), strings.Repeat("takings a\n", 61), strings.Repeat("\n", 61) + "x", strings.Repeat("x", 60000) + "\n", strings.Repeat("x", 60001), strings.Repeat("x\n", 30001)} {
		fails(t, fmt.Sprintf("%.20q", s), api.ErrLarge)(control.Day(setup(), s))
	}
	gives(t, "60 lines", slices.Repeat([]string{"0"}, 60))(control.Day(setup(), strings.Repeat("takings a\n", 60)))
	gives(t, "60000 bytes", "[error 7]")(control.Day(setup(), strings.Repeat("x", 59999)+"\n"))
	gives(t, "60 long lines", slices.Repeat([]string{"error 8"}, 60))(control.Day(setup(), strings.Repeat("write a dan order - "+strings.Repeat("x", 979)+"\n", 60)))
}

// TestAnyDay is of P10.7, and of P10.12: random scripts have the lines that the definitions give.
func TestAnyDay(t *testing.T) {
	r := rand.New(rand.NewSource(110))
	seen := map[string]int{}
	for range 600 {
		var lines []string
		for range r.Intn(61) {
			lines = append(lines, anyLine(r))
		}
		got, e := control.Day(setup(), script(lines...))
		wanted := slowDay(t, setup(), lines)
		is(t, "Day", e, api.OK)
		if !slices.Equal(got, wanted) {
			t.Errorf("%q has the lines %q, want %q", lines, got, wanted)
		}
		for _, line := range got {
			seen[line]++
		}
	}
	for _, e := range []api.Errno{api.ErrSyntax, api.ErrMissing, api.ErrForm, api.ErrAllowed, api.ErrKind, api.ErrClash} {
		if seen[failure(e)] < 20 {
			t.Errorf("the error %d was seen %d times", e, seen[failure(e)])
		}
	}
}

// anyLine returns a random line of a script, which is right most of the time.
func anyLine(r *rand.Rand) string {
	desk := func() string { return []string{"a", "a", "a", "b", "b", "b", "B-3", "zz"}[r.Intn(8)] }
	about := fmt.Sprintf("%s.%d", []string{"a", "b"}[r.Intn(2)], r.Intn(4))
	line := ""
	switch r.Intn(8) {
	case 0:
		line = fmt.Sprintf("link %s %s", desk(), desk())
	case 1:
		line = fmt.Sprintf("crash %s %d", desk(), []int{0, 50, 100, 200, 1000, 99999}[r.Intn(6)])
	case 2:
		line = fmt.Sprintf("trip %s %s", desk(), about)
	case 3:
		line = "takings " + desk()
	default:
		x := anyDraft(r)
		if r.Intn(2) == 0 {
			kind := r.Intn(5)
			x.Kind, x.Text = kind, rightTexts[kind][0]
		}
		if x.Kind < api.ControlAssign || x.Kind > api.ControlBill {
			about = "-"
		}
		line = fmt.Sprintf("write %s %s %s %s %s", desk(), []string{"ida", "ida", "ida", x.Person}[r.Intn(4)], kindWords[x.Kind], about, x.Text)
	}
	if r.Intn(12) == 0 {
		b := []byte(line)
		b[r.Intn(len(b))] = "0- .ab\xff"[r.Intn(7)]
		line = string(b)
	}
	return line
}

var (
	keyForm  = `([^ .]+)\.(0|-?[1-9][0-9]{0,5})`
	lineForm = regexp.MustCompile(`(?s)\A(?:(write) ([^ ]+) ([^ ]+) ([^ ]+) (?:-|` + keyForm + `) (.+)|(link) ([^ ]+) ([^ ]+)|(crash) ([^ ]+) (0|[1-9][0-9]{0,4})|(trip) ([^ ]+) ` + keyForm + `|(takings) ([^ ]+))\z`)
)

// slowDay is the lines of a script, made with journals that are kept by the test.
func slowDay(t *testing.T, s api.ControlSetup, lines []string) []string {
	t.Helper()
	journals, told := map[string][]api.ControlEntry{}, []string(nil)
	for _, line := range lines {
		text, e := slowLine(s, journals, line)
		if e != api.OK {
			text = failure(e)
		}
		told = append(told, text)
	}
	return told
}

// slowLine carries a line out.
func slowLine(s api.ControlSetup, journals map[string][]api.ControlEntry, line string) (string, api.Errno) {
	parts := lineForm.FindStringSubmatch(line)
	if parts == nil {
		return "", api.ErrSyntax
	}
	var words []string
	for _, part := range parts[1:] {
		if part != "" {
			words = append(words, part)
		}
	}
	desk := words[1]
	if !slices.Contains(s.Desks, desk) || words[0] == "link" && !slices.Contains(s.Desks, words[2]) {
		return "", api.ErrMissing
	}
	switch words[0] {
	case "write":
		number, _ := strconv.Atoi(parts[6])
		return slowWrite(s, journals, desk, parts[4], api.ControlDraft{Person: parts[3], Key: key(parts[5], number), Text: parts[7]})
	case "link":
		return slowLink(s, journals, desk, words[2])
	case "crash":
		text := slowText(journals[desk])
		bytes, _ := strconv.Atoi(words[2])
		journals[desk] = slowRecovered(text[:min(len(text), bytes)])
		return fmt.Sprint(len(journals[desk])), api.OK
	case "trip":
		number, _ := strconv.Atoi(words[3])
		for _, trip := range slowStateOf(s, journals[desk]).Trips {
			if trip.Key == key(words[2], number) {
				car := trip.Car
				if car == "" {
					car = "-"
				}
				return fmt.Sprint(trip.Passenger, " ", car, " ", []string{"ordered", "assigned", "carried", "billed", "cancelled"}[trip.Status], " ", trip.Fare), api.OK
			}
		}
		return "", api.ErrMissing
	}
	cents := 0
	for _, trip := range slowStateOf(s, journals[desk]).Trips {
		cents += bit(trip.Status == api.ControlBilled) * trip.Fare
	}
	return fmt.Sprint(cents), api.OK
}

func slowWrite(s api.ControlSetup, journals map[string][]api.ControlEntry, desk, word string, x api.ControlDraft) (string, api.Errno) {
	x.Kind = slices.Index(kindWords, word)
	if x.Kind < 0 {
		return "", api.ErrKind
	}
	l := journals[desk]
	stamp := api.ControlStamp{Clock: 1, Desk: desk}
	for _, y := range l {
		stamp.Clock = max(stamp.Clock, y.Stamp.Clock+1)
		stamp.Number += bit(y.Stamp.Desk == desk)
	}
	written := api.ControlEntry{Stamp: stamp, Draft: x}
	if len(l) >= 60 {
		return "", api.ErrFull
	}
	if e := slowEntryError(s, written); e != api.OK {
		return "", e
	}
	journals[desk] = append(slices.Clone(l), written)
	return slowFormat(written), api.OK
}

func slowLink(s api.ControlSetup, journals map[string][]api.ControlEntry, a, b string) (string, api.Errno) {
	if a == b {
		return "", api.ErrForm
	}
	for _, x := range journals[a] {
		for _, y := range journals[b] {
			if x != y && x.Stamp.Desk == y.Stamp.Desk && x.Stamp.Number == y.Stamp.Number {
				return "", api.ErrClash
			}
		}
	}
	all := slowJoined(journals[a], journals[b])
	if len(all) > 60 {
		return "", api.ErrLarge
	}
	text := fmt.Sprint(len(all)-len(journals[a]), " ", len(all)-len(journals[b]))
	journals[a], journals[b] = all, all
	return text, api.OK
}
