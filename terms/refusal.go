package terms

import (
	"errors"

	"demurrage/api"
)

var (
	errNone  = errors.New("there is no such one")
	errDay   = errors.New("a number that is no day's")
	errOrder = errors.New("the first one isn't ahead of the last one")
	errBound = errors.New("a bound is passed")
)

// refusal is why terms may not be, and which part of them is at fault.
type refusal struct {
	part string
	why  error
}

// Error is the refusal as a text.
func (r refusal) Error() string { return r.part + ": " + r.why.Error() }

// Unwrap is what errors.Is asks for the error behind the refusal.
func (r refusal) Unwrap() error { return r.why }

// code is what a refusal is answered with, by the error behind it.
func (r refusal) code() api.Errno {
	switch {
	case errors.Is(r, errNone):
		return api.ErrArg
	case errors.Is(r, errDay):
		return api.ErrDay
	case errors.Is(r, errOrder):
		return api.ErrOrder
	default:
		return api.ErrBound
	}
}

// code is what a call answers of why terms may not be: OK, if they may.
func code(why error) api.Errno {
	var r refusal
	if errors.As(why, &r) {
		return r.code()
	}
	return api.OK
}
