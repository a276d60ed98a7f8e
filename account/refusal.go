package account

import (
	"errors"
	"strconv"

	"fiacre/api"
)

// refusal is what is wrong, as an error on the way to the caller.
type refusal struct{ code api.Errno }

// Error returns the text of a refusal.
func (r refusal) Error() string { return "error " + strconv.Itoa(int(r.code)) }

// place is an error of a thing in a list, with the number of the thing.
type place struct {
	number int
	cause  error
}

// Error returns the text of the error, with its place.
func (p place) Error() string { return strconv.Itoa(p.number) + ": " + p.cause.Error() }

// Unwrap returns the error without its place.
func (p place) Unwrap() error { return p.cause }

// numbered returns the error of a list, if there is one.
func numbered(number int, code api.Errno) error {
	if code == api.OK {
		return nil
	}
	return place{number, refusal{code}}
}

// unnamed returns an error, if there is one, that names nothing, whatever it named before.
func unnamed(err error) error {
	if err == nil {
		return nil
	}
	return place{0, err}
}

// first returns the first error of some.
func first(errs ...error) error {
	for _, err := range errs {
		if err != nil {
			return err
		}
	}
	return nil
}

// told returns an error as callers are told it: the outermost number, if it has one, and what is wrong.
func told(err error) (int, api.Errno) {
	var at place
	if errors.As(err, &at) {
		return at.number, codeOf(err)
	}
	return 0, codeOf(err)
}

// codeOf returns what is wrong, without a number.
func codeOf(err error) api.Errno {
	var r refusal
	if errors.As(err, &r) {
		return r.code
	}
	return api.OK
}
