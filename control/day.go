package control

import (
	"strconv"
	"strings"

	"fiacre/api"
)

// Day returns the lines of a script.
func Day(s api.ControlSetup, script string) ([]string, api.Errno) {
	if e := errorOfSetup(s); e != api.OK {
		return nil, e
	}
	if len(script) > api.MaxText || strings.Count(script, lineEnd) > api.MaxControlLines {
		return nil, api.ErrLarge
	}
	if script != "" && !strings.HasSuffix(script, lineEnd) {
		return nil, api.ErrSyntax
	}
	r := newRoom(s)
	var lines []string
	for line := range strings.Lines(script) {
		lines = append(lines, r.told(strings.TrimSuffix(line, lineEnd)))
	}
	return lines, api.OK
}

// A room is its desks at work, by their names.
type room struct{ desks map[string]*Desk }

func newRoom(s api.ControlSetup) room {
	r := room{desks: map[string]*Desk{}}
	for _, name := range s.Desks {
		r.desks[name] = &Desk{setup: s, name: name}
	}
	return r
}

// told carries a line of a script out, and returns what it tells.
func (r room) told(line string) string {
	x, is := parsedStep(line)
	if !is {
		return errorLine(api.ErrSyntax)
	}
	text, e := x.carryOut(r)
	if e != api.OK {
		return errorLine(e)
	}
	return text
}

func errorLine(e api.Errno) string { return "error " + strconv.Itoa(int(e)) }

// desk returns the desk with a name.
func (r room) desk(name string) (*Desk, api.Errno) {
	d, is := r.desks[name]
	if !is {
		return nil, api.ErrMissing
	}
	return d, api.OK
}
