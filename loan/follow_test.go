package loan

import (
	"math/rand"
	"testing"

	"demurrage/api"
)

// follows pays just the rows' Pay on their rolled days, and holds each payment against its row: P22.5.
func follows(t *testing.T, l api.Loan) {
	t.Helper()
	rows, e := Rows(l)
	if e != api.OK || len(rows) != len(l.Plan.Rolled)-1 {
		t.Fatalf("%+v: %d rows, %d", l, len(rows), e)
	}
	for i, row := range rows {
		day := l.Plan.Rolled[i+1]
		if l.Open != row.Open || l.Due != 0 || l.From != l.Plan.Rolled[i] {
			t.Fatalf("%+v: row %d: %v, not %v", l.Terms, i, counters(l), row)
		}
		if all, e := Quote(l, day); e != api.OK || all != row.Open+row.Int {
			t.Fatalf("%+v: row %d: %d, not %v", l.Terms, i, all, row)
		}
		var told api.Resp
		l, told = Pay(l, day, row.Pay)
		if told != (api.Resp{A: row.Int, B: row.Back}) || l.Open != row.Close {
			t.Fatalf("%+v: row %d: %v, %v, not %v", l.Terms, i, counters(l), told, row)
		}
		sums(t, l, told, row.Pay)
	}
	if l.Open != 0 || l.Due != 0 || l.Back != l.Terms.Money || l.From != lastOf(l) {
		t.Fatalf("%+v: %v", l.Terms, counters(l))
	}
	if all, e := Quote(l, lastDay); all != 0 || e != api.OK {
		t.Fatalf("%+v: %d, %d", l.Terms, all, e)
	}
}

// TestFollowedByHand is of P22.5: the chapter's loan of each kind, paid by tables that were reckoned by hand.
func TestFollowedByHand(t *testing.T) {
	for kind, rows := range reckoned() {
		x := year()
		x.Kind = kind
		l := opened(t, x, api.Cal{})
		follows(t, l)
		back, interest := 0, 0
		for i, row := range rows {
			interest, back = interest+row[1], back+row[2]
			l = reckonedPay{l.Plan.Rolled[i+1], row[3], api.Resp{A: row[1], B: row[2]}, [5]int{row[4], 0, l.Plan.Rolled[i+1], back, interest}}.held(t, l)
		}
	}
}

// TestFollowedAll is of P22.5: loans of each kind, by each way to count and to roll, with periods of each length, by each calendar.
func TestFollowedAll(t *testing.T) {
	for x, c := range each(at(t, "2023-12-31"), at(t, "2025-02-28"), []int{0, 1, 2}, []int{1, 2, 3, 4, 6, 12}) {
		follows(t, opened(t, x, c))
	}
}

// TestFollowedBounds is of P22.5: the least and the greatest loans, of 1200 periods and of one, at both ends of the days that are, and such that are rolled to the same days.
func TestFollowedBounds(t *testing.T) {
	for _, both := range [][2]int{{9000000000000, 1000000}, {api.MaxMoney, 9000}, {api.MaxMoney, 0}, {1, 0}, {1, 1000000}, {1199, 450}} {
		for kind := range 3 {
			x := year()
			x.Money, x.Rate, x.Kind = both[0], both[1], kind
			for _, days := range [][2]int{{firstDay, 438292}, {lastDay - 438291, lastDay}, {firstDay, 2}, {lastDay - 1, lastDay}} {
				x.Start, x.End, x.Months = days[0], days[1], 12
				follows(t, opened(t, x, api.Cal{}))
			}
			x.Start, x.End, x.Months, x.Roll = at(t, "2024-03-15"), at(t, "2024-08-15"), 1, api.LNext
			for _, run := range [][2]string{{"2024-03-01", "2024-04-20"}, {"2024-05-01", "2024-06-20"}, {"2024-07-10", "2024-08-20"}} {
				for x.Count = range 7 {
					follows(t, opened(t, x, closed(at(t, run[0]), at(t, run[1]))))
				}
			}
		}
	}
}

// TestFollowedByChance is of P22.5: loans by chance; and that it is nothing to the table how often, and on which days, a loan is looked at, or gone on with.
func TestFollowedByChance(t *testing.T) {
	r := rand.New(rand.NewSource(224))
	for range 1500 {
		l := anyLoan(r)
		follows(t, l)
		later, _ := Go(l, firstDay+r.Intn(l.Plan.Rolled[1]))
		if l.From != later.From {
			continue
		}
		follows(t, later)
	}
}
