package icma

import (
	"errors"

	"demurrage/api"
)

var (
	errNoDay   = errors.New("a number that is no day's")
	errOrder   = errors.New("the first day is behind the second one")
	errMany    = errors.New("too few days of periods, or too many")
	errFalls   = errors.New("a day of periods is below the one ahead of it")
	errEmpty   = errors.New("the periods have no days")
	errFreq    = errors.New("a year isn't made of so many periods")
	errOutside = errors.New("a day is outside the periods")
)

// refusal is why a call refuses, and what it answers of that.
type refusal struct {
	code api.Errno
	why  error
}

// Error is the refusal as a text.
func (r refusal) Error() string { return r.why.Error() }

// Unwrap is what errors.Is asks for the error behind the refusal.
func (r refusal) Unwrap() error { return r.why }

// code is what a call answers of why it refuses: OK, if it doesn't.
func code(why error) api.Errno {
	var r refusal
	if errors.As(why, &r) {
		return r.code
	}
	return api.OK
}
