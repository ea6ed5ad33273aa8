package iso

import "demurrage/api"

const (
	yearDigits  = 4
	monthDigits = 2
	dayDigits   = 2

	stroke = "-"
	// The strokes' places: a day's text is cut there.
	firstStroke  = yearDigits
	secondStroke = firstStroke + len(stroke) + monthDigits
	size         = secondStroke + len(stroke) + dayDigits
)

// parts are the numbers of a text of a day's form, be they of a day that may be or not; ok tells whether it has the form.
func parts(s string) (day api.Civil, ok bool) {
	// The length is told in bytes: a rune of several of them passes places over, but it is neither digit nor stroke, and so refused.
	if len(s) != size {
		return api.Civil{}, false
	}
	for at, r := range s {
		if !fits(at, r) {
			return api.Civil{}, false
		}
		switch {
		case at < firstStroke:
			day.Y = longer(day.Y, r)
		case at > firstStroke && at < secondStroke:
			day.M = longer(day.M, r)
		case at > secondStroke:
			day.D = longer(day.D, r)
		}
	}
	return day, true
}

// fits: may that rune stand at that place of a day's text?
func fits(at int, r rune) bool {
	if at == firstStroke || at == secondStroke {
		return r == rune(stroke[0])
	}
	// Other scripts have digits too, which are none here.
	return r >= '0' && r <= '9'
}

// longer is a number with one more digit behind it.
func longer(n int, digit rune) int { return 10*n + int(digit-'0') }
