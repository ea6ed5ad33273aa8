package months

import (
	"demurrage/api"
	"demurrage/civil"
)

const (
	firstYear = 1
	lastYear  = 9999
	year      = 12
	// all is how many months there are of which a day may be.
	all = (lastYear - firstYear + 1) * year

	// longest is a day of the month that none passes: cut, it is the last one.
	longest = 31
)

// cut is what made makes of a month's day, or of its last one, if it hasn't so many.
func cut[T any](y, m, d int, made func(api.Civil) (T, api.Errno)) (T, api.Errno) {
	return made(api.Civil{Y: y, M: m, D: min(d, civil.Length(y, m))})
}

// on is the month so many on from a day's.
func on(day api.Civil, k int) (y, m int, e api.Errno) {
	ahead := (day.Y-firstYear)*year + day.M - 1
	behind := all - 1 - ahead
	// k is held against the months there are on both sides, for it could go round if it were added first.
	if k < -ahead || k > behind {
		return 0, 0, api.ErrDay
	}
	at := ahead + k
	return firstYear + at/year, 1 + at%year, api.OK
}
