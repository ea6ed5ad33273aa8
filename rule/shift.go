package rule

import (
	"demurrage/api"
	"demurrage/civil"
)

const (
	saturday = 5
	sunday   = 6
)

// shifted is a day, or of a weekend's day the one that the shift brings it to.
func shifted(n, shift int) int {
	if shift == api.SNone {
		return n
	}
	switch civil.Weekday(n) {
	case saturday:
		if shift == api.SNear {
			return n - 1
		}
		n++
		// The day behind is the Sunday, which both shifts bring to the Monday.
		fallthrough
	case sunday:
		n++
	}
	return n
}
