package loan

import (
	"demurrage/accrue"
	"demurrage/api"
	"demurrage/civil"
)

// turned is a loan that days turn. Its plan is shared with the loan that it comes from: a plan is read, and never written into.
type turned struct{ api.Loan }

// pass goes through the rolled days up to a day. Interest is rounded on each of them, as it is in the rows of the table.
func (t *turned) pass(day int) api.Errno {
	if _, e := civil.Of(day); e != api.OK {
		return e
	}
	for _, rolled := range t.Plan.Rolled {
		if rolled > t.From && rolled <= day {
			if e := t.grow(rolled); e != api.OK {
				return e
			}
		}
	}
	return api.OK
}

// reach goes to a day itself, be it a rolled one or not, but no further than a loan bears interest.
func (t *turned) reach(day int) api.Errno {
	if e := t.pass(day); e != api.OK {
		return e
	}
	if to := min(day, t.last()); to > t.From {
		return t.grow(to)
	}
	return api.OK
}

// grow makes interest due up to a day.
func (t *turned) grow(day int) api.Errno {
	interest, e := accrue.Between(t.Terms, t.Plan.Side, t.Open, t.From, day)
	if e != api.OK {
		return e
	}
	t.Due += interest
	t.From = day
	return api.OK
}

// last is a loan's last day. What has no rolled days is no loan, and goes nowhere.
func (t *turned) last() int {
	days := t.Plan.Rolled
	if len(days) == 0 {
		return t.From
	}
	return days[len(days)-1]
}
