package loan

import (
	"slices"
	"testing"

	"demurrage/api"
	"demurrage/table"
)

// lays holds Rows against chapter 21's table of a loan's terms and plan, and tells the code.
func lays(t *testing.T, l api.Loan) api.Errno {
	t.Helper()
	want, code := table.Of(l.Terms.Kind, l.Terms.Money, l.Terms.Rate, l.Plan.Parts)
	if got, e := Rows(l); e != code || !slices.Equal(got, want) {
		t.Errorf("%+v: %v, %d, not %v, %d", l, got, e, want, code)
	}
	return code
}

// numbers are rows by their numbers alone: Open, Int, Back, Pay, Close.
func numbers(rows []api.Row) [][5]int {
	var all [][5]int
	for _, row := range rows {
		all = append(all, [5]int{row.Open, row.Int, row.Back, row.Pay, row.Close})
	}
	return all
}

// reckoned is a table of each kind, of the example's terms, by hand: of level payments 25795 would leave 25798 at the end.
func reckoned() [][][5]int {
	return [][][5]int{
		{{100000, 1250, 0, 1250, 100000}, {100000, 1278, 0, 1278, 100000}, {100000, 1278, 0, 1278, 100000}, {100000, 1264, 100000, 101264, 0}},
		{{100000, 1250, 25000, 26250, 75000}, {75000, 958, 25000, 25958, 50000}, {50000, 639, 25000, 25639, 25000}, {25000, 316, 25000, 25316, 0}},
		{{100000, 1250, 24546, 25796, 75454}, {75454, 964, 24832, 25796, 50622}, {50622, 647, 25149, 25796, 25473}, {25473, 322, 25473, 25795, 0}},
	}
}

// TestRowsReckoned is of P22.1: a table of each kind; what days and payments have turned of the loan turns none of it.
func TestRowsReckoned(t *testing.T) {
	for kind, want := range reckoned() {
		x := year()
		x.Kind = kind
		l := opened(t, x, api.Cal{})
		later, _ := Go(l, 739000)
		part, _ := Pay(l, 739100, 30000)
		ended, _ := Pay(part, 739500, 200000)
		for _, each := range []api.Loan{l, later, part, ended} {
			if got, e := Rows(each); e != api.OK || !slices.Equal(numbers(got), want) {
				t.Errorf("%d, %v: %v, %d, not %v", kind, counters(each), got, e, want)
			}
		}
	}
}

// TestRowsAll is of P22.1: tables of loans of each kind, by each way to count and to roll, as they were opened, and paid in part.
func TestRowsAll(t *testing.T) {
	for x, c := range each(738945, 739310, []int{0, 1, 2}, []int{2, 3}) {
		l := opened(t, x, c)
		part, _ := Pay(l, l.From+45, 700)
		if lays(t, l) != api.OK || lays(t, part) != api.OK {
			t.Errorf("%+v", x)
		}
	}
}

// TestRowsBounds is of P22.1: the least and the greatest money and rate, and 1200 periods.
func TestRowsBounds(t *testing.T) {
	for _, both := range [][2]int{{1, 0}, {1, 1000000}, {9000000000000, 1000000}, {api.MaxMoney, 9000}, {api.MaxMoney, 0}} {
		for kind := range 3 {
			x := year()
			x.Money, x.Rate, x.Kind = both[0], both[1], kind
			lays(t, opened(t, x, api.Cal{}))
			x.Start, x.End, x.Months = firstDay, 438292, 12
			if l := opened(t, x, api.Cal{}); len(l.Plan.Parts) != 1200 || lays(t, l) != api.OK {
				t.Errorf("%+v: %d", x, len(l.Plan.Parts))
			}
		}
	}
}

// TestRowsCodes is of P22.1: codes go up. No loan that Open tells has terms such as these, but the table's code is what is answered all the same.
func TestRowsCodes(t *testing.T) {
	refused := func(code api.Errno, turn func(l *api.Loan)) {
		t.Helper()
		l := opened(t, year(), api.Cal{})
		turn(&l)
		if got, e := Rows(l); e != code || len(got) != 0 {
			t.Errorf("%v, %d, not %d", got, e, code)
		}
	}
	refused(api.ErrArg, func(l *api.Loan) { l.Terms.Kind = 3 })
	refused(api.ErrArg, func(l *api.Loan) { l.Plan.Parts = nil })
	refused(api.ErrArg, func(l *api.Loan) { l.Terms.Rate = -1 })
	refused(api.ErrBound, func(l *api.Loan) { l.Terms.Money = api.MaxMoney + 1 })
	refused(api.ErrOver, func(l *api.Loan) { l.Plan.Parts = []api.Ratio{{N: api.MaxNum, D: 1}} })
	refused(api.ErrArg, func(l *api.Loan) { *l = api.Loan{} })
}
