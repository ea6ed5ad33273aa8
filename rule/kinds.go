package rule

import (
	"demurrage/api"
	"demurrage/civil"
	"demurrage/easter"
)

const (
	firstYear = 1
	lastYear  = 9999
	// leapYear is any leap year: months are longest in these.
	leapYear = 2000
	months   = 12
	week     = 7
	// mostWeeks is how often a day of the week is in a month, at most.
	mostWeeks = 5
	// fewestOff and mostOff are how many days off Easter a rule's day may be.
	fewestOff = -100
	mostOff   = 250
)

// told is a rule, by what tells its day of a year.
type told api.Rule

// teller is what tells the days of a rule, if that may be.
func teller(r api.Rule) (tell func(told, int) (int, bool), may bool) {
	if !within(r.Shift, api.SNone, api.SNext) || !within(r.From, firstYear, r.To) || r.To > lastYear {
		return nil, false
	}
	tell = told.last
	switch r.Kind {
	case api.RFixed:
		// What isn't a month has no days, so that no day of it may be.
		tell, may = told.fixed, within(r.Day, 1, civil.Length(leapYear, r.Month))
	case api.RNth:
		if !within(r.K, 1, mostWeeks) {
			return nil, false
		}
		tell = told.nth
		// What else tells the K-th day of the week tells the last one, too.
		fallthrough
	case api.RLast:
		may = within(r.Month, 1, months) && within(r.Day, 0, week-1)
	case api.REaster:
		tell, may = told.easter, within(r.Off, fewestOff, mostOff)
	}
	if !may {
		return nil, false
	}
	return tell, true
}

// within: is a number from one to another one?
func within(n, from, to int) bool { return n >= from && n <= to }

// fixed is the day of the month.
func (r told) fixed(y int) (int, bool) { return number(y, r.Month, r.Day) }

// nth is the K-th day of the week in the month.
func (r told) nth(y int) (int, bool) {
	first, there := number(y, r.Month, 1)
	if !there {
		return 0, false
	}
	on := (r.Day - civil.Weekday(first) + week) % week
	return number(y, r.Month, 1+on+week*(r.K-1))
}

// last is the last day of the week in the month.
func (r told) last(y int) (int, bool) {
	end, there := number(y, r.Month, civil.Length(y, r.Month))
	if !there {
		return 0, false
	}
	back := (civil.Weekday(end) - r.Day + week) % week
	return end - back, true
}

// easter is the day so many days off Easter.
func (r told) easter(y int) (int, bool) {
	from, e := easter.Day(y)
	if e != api.OK {
		return 0, false
	}
	return day(from + r.Off)
}

// number is the number of a day of a month, if the month has it.
func number(y, m, d int) (int, bool) {
	n, e := civil.Number(api.Civil{Y: y, M: m, D: d})
	return n, e == api.OK
}

// day is a number, if it is a day's.
func day(n int) (int, bool) {
	if !within(n, api.MinDay, api.MaxDay) {
		return 0, false
	}
	return n, true
}
