// Package check has what the checks of arguments in all chapters share.
package check

import "fiacre/api"

// First returns the first error of some, or api.OK.
func First(errors ...api.Errno) api.Errno {
	for _, e := range errors {
		if e != api.OK {
			return e
		}
	}
	return api.OK
}

// Within tells whether a number is from least to most.
func Within(n, least, most int) bool { return least <= n && n <= most }

// List returns the first error of a list of so many things, of which there are not more than most, and the number of the thing that has it.
func List(many, most int, errorOf func(i int) api.Errno) (int, api.Errno) {
	if many > most {
		return 0, api.ErrLarge
	}
	for i := range many {
		if e := errorOf(i); e != api.OK {
			return i, e
		}
	}
	return 0, api.OK
}
