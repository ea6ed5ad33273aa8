package actual

import (
	"demurrage/api"
	"demurrage/civil"
)

const (
	shortYear = 360
	year      = 365
	leapYear  = 366
)

// span are the days from one on, up to the one ahead of another one, by numbers, and the years of both.
type span struct {
	from, to            int
	firstYear, lastYear int
}

// between are the days from a to b, or why there are none.
func between(a, b int) (span, error) {
	first, e := civil.Of(a)
	if e != api.OK {
		return span{}, refusal{place: "the first day", why: errDay}
	}
	last, e := civil.Of(b)
	if e != api.OK {
		return span{}, refusal{place: "the second day", why: errDay}
	}
	if a > b {
		return span{}, refusal{place: "both days", why: errOrder}
	}
	return span{from: a, to: b, firstYear: first.Y, lastYear: last.Y}, nil
}

// byYears is how many of the days are in leap years, and how many in others.
func (s span) byYears() (inLeap, inOthers int) {
	// The first day's year has a first day too: there is no code to hand on.
	begin, _ := civil.Number(api.Civil{Y: s.firstYear, M: 1, D: 1})
	for gone := range s.lastYear - s.firstYear + 1 {
		y := s.firstYear + gone
		// The next year's first day is reckoned, not asked for: behind the last year there is none.
		next := begin + length(y)
		days := min(s.to, next) - max(s.from, begin)
		if civil.Leap(y) {
			inLeap += days
		} else {
			inOthers += days
		}
		begin = next
	}
	return inLeap, inOthers
}

// length is how many days a year has.
func length(y int) int {
	if civil.Leap(y) {
		return leapYear
	}
	return year
}
