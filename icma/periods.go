package icma

import (
	"iter"
	"slices"

	"demurrage/api"
	"demurrage/civil"
)

const (
	fewestRefs = 2
	mostRefs   = api.MaxRows + 4
	mostFreq   = 12
)

// isDay: has a day that number?
func isDay(n int) bool {
	_, e := civil.Of(n)
	return e == api.OK
}

// may is why periods may not be, or nil.
func may(refs []int, freq int) error {
	if len(refs) < fewestRefs || len(refs) > mostRefs {
		return errMany
	}
	first, last := refs[0], refs[len(refs)-1]
	switch {
	case !slices.IsSorted(refs):
		return errFalls
	case !isDay(first) || !isDay(last):
		// They don't fall: if these two are days, those between are, too.
		return errNoDay
	case first == last:
		return errEmpty
	case freq < 1 || freq > mostFreq:
		return errFreq
	default:
		return nil
	}
}

// check is why two days have no part by these periods, or nil.
func check(a, b int, refs []int, freq int) error {
	if !isDay(a) || !isDay(b) {
		return refusal{code: api.ErrDay, why: errNoDay}
	}
	if a > b {
		return refusal{code: api.ErrOrder, why: errOrder}
	}
	if why := may(refs, freq); why != nil {
		return refusal{code: api.ErrSide, why: why}
	}
	if a < refs[0] || b > refs[len(refs)-1] {
		return refusal{code: api.ErrSide, why: errOutside}
	}
	return nil
}

// shares are, of each period that has days from a to b, how many of these it has, and how many days in all.
func shares(a, b int, refs []int) iter.Seq2[int, int] {
	return func(yield func(int, int) bool) {
		for i, to := range refs[1:] {
			from := refs[i]
			days := min(b, to) - max(a, from)
			if days > 0 && !yield(days, to-from) {
				return
			}
		}
	}
}
