package actual

import (
	"errors"

	"demurrage/api"
)

var (
	errDay   = errors.New("a number that is no day's")
	errOrder = errors.New("the first one is behind the second one")
)

// refusal is why two days are refused, and which of them is at fault.
type refusal struct {
	place string
	why   error
}

// Error is the refusal as a text.
func (r refusal) Error() string { return r.place + ": " + r.why.Error() }

// Unwrap is what errors.Is asks for the error behind the refusal.
func (r refusal) Unwrap() error { return r.why }

// code is what a call answers of why it refuses: OK, if it doesn't.
func code(why error) api.Errno {
	switch {
	case errors.Is(why, errDay):
		return api.ErrDay
	case errors.Is(why, errOrder):
		return api.ErrOrder
	default:
		return api.OK
	}
}
