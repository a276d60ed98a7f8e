package street_test

import (
	"fmt"
	"math/rand"
	"strings"
	"testing"

	"fiacre/api"
	"fiacre/street"
)

// parsed returns the net with a text, the number of a line being left out.
func parsed(s string) (api.StreetNet, api.Errno) {
	n, _, e := street.Parse(s)
	return n, e
}

// TestTexts is of P3.9.
func TestTexts(t *testing.T) {
	gives(t, "Print", abcText)(street.Print(abc()))
	gives(t, "Parse", abc())(parsed(abcText))
	gives(t, "Print of a place", "place p0\n")(street.Print(net(1)))
	gives(t, "Parse of a place", net(1))(parsed("place p0\n"))
	gives(t, "Parse of the document's net", net(2, road("x", 0, 1, 1000, point(0, 100, 200))))(parsed("place p0\nplace p1\nroad x p0 p1 1000\ntime 0 100 200\n"))
	gives(t, "Parse of names like words", api.StreetNet{Places: []string{"place", "road", "time"}, Roads: []api.StreetRoad{even("time", 2, 1, 7)}})(
		parsed("place place\nplace road\nplace time\nroad time time road 7\ntime 0 7 7\n"))
	if n, line, e := street.Parse(abcText); fmt.Sprint(n) != fmt.Sprint(abc()) || line != 0 || e != api.OK {
		t.Errorf("Parse: line %d, error %d", line, e)
	}
	fails(t, "Print of a wrong net", api.ErrName)(street.Print(nameless()))
	fails(t, "Print of no places", api.ErrShape)(street.Print(api.StreetNet{}))
}

// TestLines is of P3.9: the first line that is wrong.
func TestLines(t *testing.T) {
	const ab = "place a\nplace b\n"
	const abx = ab + "road x a b 1\ntime 0 1 2\n"
	for _, x := range []struct {
		text string
		line int
		e    api.Errno
	}{
		{abx, 0, api.OK},
		{"", 0, api.ErrShape},
		{"\n", 1, api.ErrSyntax},
		{" \n", 1, api.ErrSyntax},
		{"place a", 1, api.ErrSyntax},
		{"place a\nplace b", 2, api.ErrSyntax},
		{abx + "time 1 1 2", 5, api.ErrSyntax},
		{abx + "\n", 5, api.ErrSyntax},
		{abx + " ", 5, api.ErrSyntax},
		{"\n" + abx, 1, api.ErrSyntax},
		{ab + "\nroad x a b 1\ntime 0 1 2\n", 3, api.ErrSyntax},
		{"place\n", 1, api.ErrSyntax},
		{"place \n", 1, api.ErrSyntax},
		{" place a\n", 1, api.ErrSyntax},
		{"place  a\n", 1, api.ErrSyntax},
		{"place a \n", 1, api.ErrSyntax},
		{"place a b\n", 1, api.ErrSyntax},
		{"place\ta\n", 1, api.ErrSyntax},
		{"Place a\n", 1, api.ErrSyntax},
		{"places a\n", 1, api.ErrSyntax},
		{"plac a\n", 1, api.ErrSyntax},
		{"a\n", 1, api.ErrSyntax},
		{abx + "place c\n", 5, api.ErrSyntax},
		{ab + "road x a b 1\nplace c\n", 4, api.ErrSyntax},
		{ab + "time 0 1 2\nroad x a b 1\n", 3, api.ErrSyntax},
		{"time 0 1 2\n", 1, api.ErrSyntax},
		{ab + "road\n", 3, api.ErrSyntax},
		{ab + "road x a b\n", 3, api.ErrSyntax},
		{ab + "road x a 1\n", 3, api.ErrSyntax},
		{ab + "road x a b 1 2\n", 3, api.ErrSyntax},
		{ab + "road x a b m\n", 3, api.ErrSyntax},
		{ab + "road x a  1\n", 3, api.ErrSyntax},
		{ab + "road  a b 1\n", 3, api.ErrSyntax},
		{ab + "road x a b 1 \n", 3, api.ErrSyntax},
		{ab + "road x a b 01\n", 3, api.ErrSyntax},
		{ab + "road x a b +1\n", 3, api.ErrSyntax},
		{ab + "road x a b -0\n", 3, api.ErrSyntax},
		{ab + "road x a b -\n", 3, api.ErrSyntax},
		{ab + "road x a b 1e3\n", 3, api.ErrSyntax},
		{ab + "road x a b 1234567890\n", 3, api.ErrSyntax},
		{ab + "road x a b -1234567890\n", 3, api.ErrSyntax},
		{ab + "road x a b 99999999999999999999\n", 3, api.ErrSyntax},
		{ab + "road x a b 1\r\n", 3, api.ErrSyntax},
		{abx + "time\n", 5, api.ErrSyntax},
		{abx + "time 1 1\n", 5, api.ErrSyntax},
		{abx + "time 1 1 2 3\n", 5, api.ErrSyntax},
		{abx + "time x 1 2\n", 5, api.ErrSyntax},
		{abx + "time 1 x 2\n", 5, api.ErrSyntax},
		{abx + "time 1 1 x\n", 5, api.ErrSyntax},
		{abx + "time 01 1 2\n", 5, api.ErrSyntax},
		{abx + "time 1 1234567890 2\n", 5, api.ErrSyntax},
		{abx + "time 1  2\n", 5, api.ErrSyntax},
		{abx + "time 1 1 2\nq\ntime\n", 6, api.ErrSyntax},
		{"place a\nplace 1 1\nplace\n", 2, api.ErrSyntax},
		// A name of no place, behind all lines that have not their form.
		{ab + "road x a c 1\ntime 0 1 2\n", 3, api.ErrMissing},
		{ab + "road x c a 1\ntime 0 1 2\n", 3, api.ErrMissing},
		{ab + "road x A b 1\n", 3, api.ErrMissing},
		{"road x a b 1\n", 1, api.ErrMissing},
		{"road x a b 1\nplace a\n", 2, api.ErrSyntax},
		{abx + "road y a c 1\nroad z c c 1\n", 5, api.ErrMissing},
		{ab + "road x a c 1\ntime 0 1 2\ntime 9\n", 5, api.ErrSyntax},
		{ab + "road x a c 1\nq\n", 4, api.ErrSyntax},
		{"place a\nplace a\nroad x a c 1\n", 3, api.ErrMissing},
		{"place 1\nroad x 1 c 1\n", 2, api.ErrMissing},
		// What is wrong with the net.
		{"place 1\n", 0, api.ErrName},
		{"place a\tb\n", 0, api.ErrName},
		{"place \xff\x00\r\n", 0, api.ErrName},
		{"place abcdefghijklm\n", 0, api.ErrName},
		{"place a\nplace a\n", 0, api.ErrExists},
		{ab + strings.Repeat("place x\n", 19), 0, api.ErrLarge},
		{ab + "road x a b 1\n", 0, api.ErrShape},
		{ab + "road x a a 1\ntime 0 1 2\n", 0, api.ErrDouble},
		{ab + "road 1 a b 1\ntime 0 1 2\n", 0, api.ErrName},
		{abx + "road x a b 1\ntime 0 1 2\n", 0, api.ErrExists},
		{ab + "road x a b -1\ntime 0 1 2\n", 0, api.ErrRange},
		{ab + "road x a b -999999999\ntime 0 1 2\n", 0, api.ErrRange},
		{ab + "road x a b 999999999\ntime 0 1 2\n", 0, api.ErrRange},
		{ab + "road x a b 1\ntime -5 1 2\n", 0, api.ErrRange},
		{ab + "road x a b 1\ntime 0 1 999999999\n", 0, api.ErrRange},
		{abx + "time 0 1 2\n", 0, api.ErrOrder},
		{ab + "road x a b 1\ntime 0 2 1\n", 0, api.ErrOrder},
		{ab + "road x a b 1\ntime 0 9 9\ntime 1 7 9\n", 0, api.ErrOpen},
	} {
		n, line, e := street.Parse(x.text)
		if line != x.line || e != x.e || e != api.OK && !isNothing(n) {
			t.Errorf("Parse of %q: %v, line %d, error %d; want line %d, error %d", x.text, n, line, e, x.line, x.e)
		}
	}
}

// TestLongTexts is of P3.9.
func TestLongTexts(t *testing.T) {
	for _, x := range []struct {
		text string
		line int
		e    api.Errno
	}{
		{strings.Repeat("x", 60000), 1, api.ErrSyntax},
		{strings.Repeat("x", 60001), 0, api.ErrLarge},
		{abcText + strings.Repeat(" ", 60001-len(abcText)), 0, api.ErrLarge},
		{strings.Repeat("place a\n", 7500), 0, api.ErrLarge},
		{"place " + strings.Repeat("a", 59993) + "\n", 0, api.ErrName},
		{"place a\nroad" + strings.Repeat("\nroad", 3000) + "\n", 2, api.ErrSyntax},
	} {
		n, line, e := street.Parse(x.text)
		if line != x.line || e != x.e || !isNothing(n) {
			t.Errorf("Parse of %d bytes: line %d, error %d; want line %d, error %d", len(x.text), line, e, x.line, x.e)
		}
	}
	// Of more than 20 places, or 60 roads, a net that is too large comes of a text that is not.
	roads := "place a\nplace b\n"
	for i := range 61 {
		roads += fmt.Sprint("road r", i, " a b 1\ntime 0 1 1\n")
	}
	fails(t, "Parse of 61 roads", api.ErrLarge)(parsed(roads))
	_, line, e := street.Parse(roads + "q\n")
	if line != 125 || e != api.ErrSyntax {
		t.Errorf("Parse of 61 roads and a wrong line: line %d, error %d", line, e)
	}
}

// TestTextsOfNets is of P3.9 and P3.14.
func TestTextsOfNets(t *testing.T) {
	r := rand.New(rand.NewSource(314))
	for range 500 {
		n := anyNet(r)
		s, e := street.Print(n)
		gives(t, "Print", slowText(n))(s, e)
		gives(t, "Parse of "+s, n)(parsed(s))
	}
	// The longest text that a net can have.
	n := api.StreetNet{}
	for i := range api.MaxStreetPlaces {
		n.Places = append(n.Places, fmt.Sprintf("place-%06d", i))
	}
	for i := range api.MaxStreetRoads {
		var points []api.StreetPoint
		for j := range api.MaxStreetPoints {
			points = append(points, point(80000+j, 7200, 7200))
		}
		n.Roads = append(n.Roads, road(fmt.Sprintf("road-%07d", i), i%20, (i+1)%20, 100000, points...))
	}
	s, e := street.Print(n)
	gives(t, "Print of the longest", slowText(n))(s, e)
	gives(t, "Parse of the longest", n)(parsed(s))
}

func slowText(n api.StreetNet) string {
	s := ""
	for _, place := range n.Places {
		s += "place " + place + "\n"
	}
	for _, x := range n.Roads {
		s += fmt.Sprintf("road %s %s %s %d\n", x.Name, n.Places[x.From], n.Places[x.To], x.Metres)
		for _, p := range x.Points {
			s += fmt.Sprintf("time %d %d %d\n", p.At, p.Takes.Lo, p.Takes.Hi)
		}
	}
	return s
}
