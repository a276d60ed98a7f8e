// Package check has what the checks of arguments in all chapters share.
package check

import "fiacre/api"

// First returns the first error of some, or api.OK.
func First(errors ...api.Errno) api.Errno {
	for _, e := range errors {
		if e != api.OK {
			return e
		}
	}
	return api.OK
}

// Within tells whether a number is from least to most.
func Within(n, least, most int) bool { return least <= n && n <= most }
