package wide

import "demurrage/api"

// halves is a wide number with its low half at place 0, so that one step serves both halves.
type halves [2]uint64

// step works out one half, from the carry of the half before it, and hands on a carry of its own.
type step func(place int, carry uint64) (half, next uint64)

func split(x api.Wide) halves { return halves{x.Lo, x.Hi} }

func join(h halves) api.Wide { return api.Wide{Hi: h[1], Lo: h[0]} }

// upward takes the low half first, as sums, differences and products carry to the high one.
func upward(take step) (out halves, carry uint64) {
	for place := range out {
		out[place], carry = take(place, carry)
	}
	return out, carry
}

// downward takes the high half first, as a division leaves something for the low one.
func downward(take step) (out halves, carry uint64) {
	for place := len(out) - 1; place >= 0; place-- {
		out[place], carry = take(place, carry)
	}
	return out, carry
}

// fit refuses halves that left a carry over: there is no third place to put it in.
func fit(h halves, carry uint64) (api.Wide, api.Errno) {
	if carry != 0 {
		return api.Wide{}, api.ErrOver
	}
	return join(h), api.OK
}
