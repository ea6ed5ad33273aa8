package roll

import (
	"demurrage/api"
	"demurrage/cal"
	"demurrage/civil"
)

// names are those of the ways, each at the place of its number.
var names = [...]string{
	api.LNone:    "none",
	api.LNext:    "following",
	api.LModNext: "modfollowing",
	api.LPrev:    "preceding",
	api.LModPrev: "modpreceding",
}

// start is the number that a search begins at.
type start int

// behind is the number so many days later.
func (s start) behind(far int) int { return int(s) + far }

// ahead is the number so many days earlier.
func (s start) ahead(far int) int { return int(s) - far }

// search is the nearest day of business of those that are gone to, so many days off each.
func search(c api.Cal, to func(far int) int) (int, api.Errno) {
	for far := range api.MaxRoll + 1 {
		// The search ends at the first number that is no day: none further off is one either, and none is gone to that would go round.
		n, e := itself(to(far))
		if e != api.OK {
			return 0, e
		}
		if cal.Is(c, n) {
			return n, api.OK
		}
	}
	return 0, api.ErrNone
}

// itself is a number, if it is a day's.
func itself(n int) (int, api.Errno) {
	if n < api.MinDay || n > api.MaxDay {
		return 0, api.ErrDay
	}
	return n, api.OK
}

// inMonth: is a day in the month of another one?
func inMonth(n, other int) bool {
	// Both are days here, so that neither is refused.
	a, _ := civil.Of(n)
	b, _ := civil.Of(other)
	return a.Y == b.Y && a.M == b.M
}
