package sched

import (
	"demurrage/api"
	"demurrage/count"
	"demurrage/dates"
	"demurrage/roll"
	"demurrage/terms"
)

// draft is a plan that is being made, and what it is made of.
type draft struct {
	terms api.Terms
	cal   api.Cal
	plan  api.Plan
}

// step puts a part into a draft, or tells why there is none.
type step func(d *draft) api.Errno

// steps are those of a plan. Each needs what those ahead of it have put there, and their order is that of the codes.
func steps() []step {
	return []step{putDays, putRolled, putBeside, putRefs, putParts}
}

// lay makes a plan, step by step, until one of these refuses.
func lay(t api.Terms, c api.Cal) (plan api.Plan, e api.Errno) {
	d := draft{terms: t, cal: c}
	// A draft that a step has refused has parts already, and none of these may stand beside a code.
	defer func() {
		if e == api.OK {
			plan = d.plan
		}
	}()
	for _, put := range steps() {
		if e = put(&d); e != api.OK {
			break
		}
	}
	return plan, e
}

// putDays puts the days as they are told.
func putDays(d *draft) (e api.Errno) {
	d.plan.Days, e = dates.Of(d.terms)
	return e
}

// putRolled puts the days as they are rolled.
func putRolled(d *draft) (e api.Errno) {
	d.plan.Rolled, e = d.roll(d.plan.Days)
	return e
}

// putBeside puts what every way to count is told beside.
func putBeside(d *draft) api.Errno {
	last := len(d.plan.Rolled) - 1
	d.plan.Side = api.Side{Eom: d.terms.Eom, End: d.plan.Rolled[last], Freq: terms.Freq(d.terms.Months)}
	return api.OK
}

// putRefs puts what the way by periods alone is told beside: all steps, be they within the loan or not.
func putRefs(d *draft) api.Errno {
	if d.terms.Count != api.CICMA {
		return api.OK
	}
	grid, e := dates.Grid(d.terms)
	if e != api.OK {
		return e
	}
	d.plan.Side.Refs, e = d.roll(grid)
	return e
}

// putParts puts each period's part of a year.
func putParts(d *draft) api.Errno {
	for i, to := range d.plan.Rolled[1:] {
		part, e := count.Part(d.terms.Count, d.plan.Rolled[i], to, d.plan.Side)
		if e != api.OK {
			return e
		}
		d.plan.Parts = append(d.plan.Parts, part)
	}
	return api.OK
}

// roll are days rolled by the loan's way, in a list of their own, or why the first of them that can't be isn't.
func (d *draft) roll(days []int) ([]int, api.Errno) {
	rolled := make([]int, 0, len(days))
	for _, day := range days {
		to, e := roll.To(d.cal, day, d.terms.Roll)
		if e != api.OK {
			return nil, e
		}
		rolled = append(rolled, to)
	}
	return rolled, api.OK
}
