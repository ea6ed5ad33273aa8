package cal

import (
	"demurrage/api"
	"demurrage/rule"
)

const (
	// mostRules and mostDays are what a calendar has, at most.
	mostRules = 100
	mostDays  = 1000
	// longest is how far two days may be from each other, between which days are counted.
	longest = 4000
)

// wholeWeek is what is off where no day of the week is left.
var wholeWeek = [7]bool{true, true, true, true, true, true, true}

// mayRules: may a calendar have these rules?
func mayRules(rules []api.Rule) bool {
	if len(rules) > mostRules {
		return false
	}
	for _, r := range rules {
		if !rule.May(r) {
			return false
		}
	}
	return true
}

// mayDays: may a calendar have these days?
func mayDays(days []int) bool {
	if len(days) > mostDays {
		return false
	}
	for i, n := range days {
		if !day(n) || i > 0 && n <= days[i-1] {
			return false
		}
	}
	return true
}

// day: is a number a day's?
func day(n int) bool { return n >= api.MinDay && n <= api.MaxDay }

// refusal is why days from one to another one aren't counted, or OK.
func refusal(a, b int) api.Errno {
	switch {
	case !day(a) || !day(b):
		return api.ErrDay
	case a > b:
		return api.ErrOrder
	case b-a > longest:
		return api.ErrBound
	}
	return api.OK
}
