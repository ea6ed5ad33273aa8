package level

import (
	"slices"

	"demurrage/accrue"
	"demurrage/api"
)

// debt is what a table pays: how much, at which rate, and each row's part of a year.
type debt struct {
	money int
	rate  int
	parts []api.Ratio
}

// enough is a payment with which each table ends: all the money, and the greatest interest of it. A debt that may not be, or a payment that may not, is refused here.
func (d debt) enough(pay int) (int, api.Errno) {
	if len(d.parts) == 0 || len(d.parts) > api.MaxRows {
		return 0, api.ErrArg
	}
	if d.money < 0 || d.money > api.MaxMoney || pay < 0 {
		return 0, api.ErrBound
	}
	all, e := accrue.All(d.money, d.rate, d.parts)
	if e != api.OK {
		return 0, e
	}
	// Neither is above 2^62, so that both together fit.
	high := d.money + slices.Max(all)
	if high > api.MaxNum {
		return 0, api.ErrOver
	}
	return high, api.OK
}

// walk tells each row of the table with a payment, from the first one on.
func (d debt) walk(pay int, tell func(row api.Row)) {
	open, last := d.money, len(d.parts)-1
	for i, part := range d.parts {
		// There is no code: there is none of all the money, and interest of less of it isn't more.
		interest, _ := accrue.Of(open, d.rate, part)
		back := min(max(pay-interest, 0), open)
		if i == last {
			back = open
		}
		row := api.Row{Open: open, Int: interest, Back: back, Pay: interest + back, Close: open - back}
		tell(row)
		open = row.Close
	}
}

// ends: does the table with a payment end?
func (d debt) ends(pay int) bool {
	var last api.Row
	d.walk(pay, func(row api.Row) { last = row })
	return last.Pay <= pay
}

// least is the least payment with which the table ends, not above one with which it does. With more than that it ends, too: so half of what is left is ruled out each time.
func (d debt) least(high int) int {
	low := 0
halve:
	if low == high {
		return low
	}
	middle := low + (high-low)/2
	if d.ends(middle) {
		high = middle
	} else {
		low = middle + 1
	}
	goto halve
}
