package dates

import (
	"iter"
	"slices"

	"demurrage/api"
	"demurrage/months"
)

// mostSteps are two more than a loan has periods at most: a long stub leaves one step out, and one may lie beyond the loan.
const mostSteps = api.MaxRows + 2

// ends are the day that a loan's steps are told from, the one that they go towards, and how many months on each is.
func ends(t api.Terms) (anchor, other, apart int) {
	if t.Back {
		return t.End, t.Start, -t.Months
	}
	return t.Start, t.End, t.Months
}

// between: is a day behind a loan's first one, and ahead of its last one?
func between(t api.Terms, day int) bool { return t.Start < day && day < t.End }

// steps are those of a loan from its anchor on, up to the first one behind it that isn't between the loan's ends, or that is no day.
func steps(t api.Terms) iter.Seq[int] {
	anchor, _, apart := ends(t)
	return func(yield func(int) bool) {
		// Each is moved from the anchor: moved from the step ahead, a day that a short month cuts would stay cut.
		for k := 0; ; k++ {
			day, e := months.Move(anchor, k*apart, t.Eom)
			if e != api.OK || !yield(day) {
				return
			}
			if k > 0 && !between(t, day) {
				return
			}
		}
	}
}

// inner are the days of a grid on which a loan is paid between its ends.
func inner(t api.Terms, grid []int) []int {
	var days []int
	for _, day := range grid {
		if between(t, day) {
			days = append(days, day)
		}
	}
	_, other, _ := ends(t)
	switch {
	case !t.Long || len(days) == 0 || slices.Contains(grid, other):
		return days
	case t.Back:
		return days[1:]
	default:
		return days[:len(days)-1]
	}
}
