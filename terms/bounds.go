package terms

import (
	"demurrage/api"
	"demurrage/civil"
	"demurrage/count"
	"demurrage/roll"
)

// year is how many months a year has.
const year = 12

// names are those of the kinds, each at the place of its number.
var names = [...]string{
	api.TBullet: "bullet",
	api.TEqual:  "equal",
	api.TLevel:  "level",
}

// fault is the first reason why terms may not be, or nil.
func fault(t api.Terms) error {
	switch {
	case Name(t.Kind) == "":
		return refusal{part: "the kind of loan", why: errNone}
	case count.Name(t.Count) == "":
		return refusal{part: "the way to count", why: errNone}
	case roll.Name(t.Roll) == "":
		return refusal{part: "the way to roll", why: errNone}
	case Freq(t.Months) == 0:
		return refusal{part: "the months of a period", why: errNone}
	case !isDay(t.Start):
		return refusal{part: "the first day", why: errDay}
	case !isDay(t.End):
		return refusal{part: "the last day", why: errDay}
	case t.Start >= t.End:
		return refusal{part: "both days", why: errOrder}
	case t.Money < 1 || t.Money > api.MaxMoney:
		return refusal{part: "the money", why: errBound}
	case t.Rate < 0 || t.Rate > api.MaxRate:
		return refusal{part: "the rate", why: errBound}
	case beyondBoth(t.Money, t.Rate):
		return refusal{part: "the money and the rate together", why: errBound}
	default:
		return nil
	}
}

// isDay: has a day that number?
func isDay(n int) bool {
	_, e := civil.Of(n)
	return e == api.OK
}

// beyondBoth: is money times rate too much?
func beyondBoth(money, rate int) bool {
	// Of money and rate within their own bounds the product may still go round, so the bound is divided instead.
	return rate > 0 && money > api.MaxBoth/rate
}
