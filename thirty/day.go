package thirty

import (
	"demurrage/api"
	"demurrage/civil"
	"demurrage/months"
	"demurrage/ratio"
)

const (
	year     = 360
	month    = 30
	february = 2
)

// place is a day's place among those of its month.
type place struct {
	m, d int
	last bool
}

// endsFebruary: is it a February's last day?
func (p place) endsFebruary() bool { return p.m == february && p.last }

// own is the day of the month as it is.
func (p place) own() int { return p.d }

// cut is the day of the month, but 30 of 31.
func (p place) cut() int { return min(p.d, month) }

// full is the day of the month, but 30 of its last one, as if each month had so many.
func (p place) full() int {
	if p.last {
		return month
	}
	return p.d
}

// day is a day: its place in a month, and the year.
type day struct {
	place
	y int
}

// read is the day of a number.
func read(n int) (day, api.Errno) {
	c, e := civil.Of(n)
	if e != api.OK {
		return day{}, e
	}
	return day{place: place{m: c.M, d: c.D, last: months.Last(n)}, y: c.Y}, api.OK
}

// both are two days, the second one not ahead of the first one.
func both(a, b int) (from, to day, e api.Errno) {
	if from, e = read(a); e != api.OK {
		return day{}, day{}, e
	}
	if to, e = read(b); e != api.OK {
		return day{}, day{}, e
	}
	if a > b {
		return day{}, day{}, api.ErrOrder
	}
	return from, to, api.OK
}

// part is the year's part of two days, by the days of the month that first and second tell of them.
func part(from, to day, first, second func(day) int) (api.Ratio, api.Errno) {
	days := year*(to.y-from.y) + month*(to.m-from.m) + second(to) - first(from)
	// The same day, told by two ways, may fall below itself.
	return ratio.New(max(days, 0), year)
}
