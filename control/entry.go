package control

import (
	"fiacre/api"
	"fiacre/check"
)

// CheckText returns the error of the text of an entry of a kind.
func CheckText(s api.ControlSetup, kind int, text string) api.Errno {
	if e := errorOfSetup(s); e != api.OK {
		return e
	}
	return errorOfText(s.Tariff, kind, text)
}

// CheckEntry returns the first error of an entry.
func CheckEntry(s api.ControlSetup, e api.ControlEntry) api.Errno {
	if wrong := errorOfSetup(s); wrong != api.OK {
		return wrong
	}
	return errorOfEntry(s, e)
}

// errorOfEntry returns the first error of an entry behind those of the setup.
func errorOfEntry(s api.ControlSetup, x api.ControlEntry) api.Errno {
	if e := check.First(errorOfDesk(s, x.Stamp.Desk), errorOfStamp(x.Stamp)); e != api.OK {
		return e
	}
	return errorOfDraft(s, x.Draft)
}

func errorOfStamp(x api.ControlStamp) api.Errno {
	if !check.Within(x.Clock, 1, api.MaxControlClock) || !isNumber(x.Number) {
		return api.ErrRange
	}
	return api.OK
}

// isNumber tells whether an entry can have a number.
func isNumber(n int) bool { return check.Within(n, 0, api.MaxControlEntries-1) }

func errorOfDraft(s api.ControlSetup, x api.ControlDraft) api.Errno {
	may, e := mayWrite(s, x.Person, x.Kind)
	switch {
	case e != api.OK:
		return e
	case !may:
		return api.ErrAllowed
	}
	if e := errorOfKey(s, x); e != api.OK {
		return e
	}
	return errorOfText(s.Tariff, x.Kind, x.Text)
}

// errorOfKey returns the error of the key of a draft.
func errorOfKey(s api.ControlSetup, x api.ControlDraft) api.Errno {
	if !isAboutTrip(x.Kind) {
		if x.Key != (api.ControlKey{}) {
			return api.ErrForm
		}
		return api.OK
	}
	if e := errorOfDesk(s, x.Key.Desk); e != api.OK {
		return e
	}
	if !isNumber(x.Key.Number) {
		return api.ErrRange
	}
	return api.OK
}
