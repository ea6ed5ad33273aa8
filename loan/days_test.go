package loan

import (
	"math"
	"math/rand"
	"slices"
	"testing"

	"demurrage/api"
)

// noDays are numbers that are no days.
func noDays() []int { return []int{0, -1, lastDay + 1, -lastDay, math.MinInt, math.MaxInt} }

// watched are days at which a loan may turn: about the first few and the last few rolled ones, between these, and at both ends.
func watched(l api.Loan) []int {
	rolled := l.Plan.Rolled
	if n := len(rolled); n > 6 {
		rolled = slices.Concat(rolled[:3], rolled[n-3:])
	}
	days := []int{firstDay, l.Terms.Start - 1, l.From - 1, l.From, l.From + 1, lastOf(l) + 400, lastDay}
	for i, day := range rolled {
		days = append(days, day-1, day, day+1, (day+rolled[max(i-1, 0)])/2)
	}
	slices.Sort(days)
	days = slices.DeleteFunc(days, func(day int) bool { return day < firstDay || day > lastDay })
	return slices.Compact(days)
}

// gone is P22.2, of a day that is one: interest is taken from rolled day to rolled day, one by one.
func gone(t *testing.T, l api.Loan, day int) api.Loan {
	t.Helper()
	for _, to := range l.Plan.Rolled {
		if to <= l.From || to > day {
			continue
		}
		l.Due += interest(t, l, l.Open, l.From, to)
		l.From = to
	}
	return l
}

// owes is P22.3, of a day that is one.
func owes(t *testing.T, l api.Loan, day int) int {
	t.Helper()
	later, to := gone(t, l, day), min(day, lastOf(l))
	if later.From >= to {
		return later.Due
	}
	return later.Due + interest(t, l, l.Open, later.From, to)
}

// goes holds Go, Owed and Quote of a loan and a day that is one against the chapter's words, and what was handed in against what it was.
func goes(t *testing.T, l api.Loan, day int) {
	t.Helper()
	handed := apart(l)
	if want, e := Go(handed, day); e != api.OK || !same(want, gone(t, l, day)) {
		t.Errorf("Go(%+v, %d) = %v, %d, not %v", l, day, counters(want), e, counters(gone(t, l, day)))
	}
	owed := owes(t, l, day)
	if got, e := Owed(handed, day); e != api.OK || got != owed {
		t.Errorf("Owed(%+v, %d) = %d, %d, not %d", l, day, got, e, owed)
	}
	if got, e := Quote(handed, day); e != api.OK || got != owed+l.Open {
		t.Errorf("Quote(%+v, %d) = %d, %d, not %d", l, day, got, e, owed+l.Open)
	}
	if !same(handed, l) {
		t.Errorf("%+v became %+v", l, handed)
	}
}

// refusesNoDays holds all three calls of a day against ErrDay.
func refusesNoDays(t *testing.T, l api.Loan) {
	t.Helper()
	for _, day := range noDays() {
		if got, e := Go(l, day); e != api.ErrDay || !same(got, l) {
			t.Errorf("Go(%+v, %d) = %+v, %d", l, day, got, e)
		}
		if got, e := Owed(l, day); e != api.ErrDay || got != 0 {
			t.Errorf("Owed(%+v, %d) = %d, %d", l, day, got, e)
		}
		if got, e := Quote(l, day); e != api.ErrDay || got != 0 {
			t.Errorf("Quote(%+v, %d) = %d, %d", l, day, got, e)
		}
	}
}

// TestExample is of P22.2 and P22.3: the chapter's loan, day by day, by hand.
func TestExample(t *testing.T) {
	l := opened(t, year(), api.Cal{})
	for _, x := range []struct{ day, due, from, owed int }{
		{1, 0, 738945, 0}, {738944, 0, 738945, 0}, {738945, 0, 738945, 0}, {738946, 0, 738945, 14}, {738990, 0, 738945, 625}, {739034, 0, 738945, 1236},
		{739035, 1250, 739035, 1250}, {739036, 1250, 739035, 1264}, {739126, 1250, 739035, 2514}, {739127, 2528, 739127, 2528}, {739128, 2528, 739127, 2542},
		{739218, 2528, 739127, 3792}, {739219, 3806, 739219, 3806}, {739220, 3806, 739219, 3820}, {739309, 3806, 739219, 5056},
		{739310, 5070, 739310, 5070}, {739311, 5070, 739310, 5070}, {740000, 5070, 739310, 5070}, {lastDay, 5070, 739310, 5070},
	} {
		later, e := Go(l, x.day)
		if e != api.OK || counters(later) != [5]int{100000, x.due, x.from, 0, 0} {
			t.Errorf("%d: %v, %d", x.day, counters(later), e)
		}
		if owed, e := Owed(l, x.day); e != api.OK || owed != x.owed {
			t.Errorf("%d: %d, %d, not %d", x.day, owed, e, x.owed)
		}
		if all, e := Quote(l, x.day); e != api.OK || all != 100000+x.owed {
			t.Errorf("%d: %d, %d, not %d", x.day, all, e, x.owed)
		}
		goes(t, l, x.day)
	}
	refusesNoDays(t, l)
}

// TestRoundedEach is of P22.2 and P22.3: interest is rounded on each rolled day, a half to the even coin, and not but once for all of them.
func TestRoundedEach(t *testing.T) {
	x := year()
	x.Money, x.Count = 1000, api.CE
	x.Start, x.End = at(t, "2024-01-15"), at(t, "2025-01-15")
	l := opened(t, x, api.Cal{})
	for i, day := range l.Plan.Rolled {
		later, e := Go(l, day)
		if e != api.OK || later.Due != 12*i {
			t.Errorf("%d: %d, %d", day, later.Due, e)
		}
		// Of a month, 4.17.
		if owed, e := Owed(l, day+31); e != api.OK || i < 4 && owed != 12*i+4 || i == 4 && owed != 48 {
			t.Errorf("%d: %d, %d", day, owed, e)
		}
	}
}

// TestDaysAll is of P22.2 and P22.3: loans by each way to count and to roll, at all days at which they may turn.
func TestDaysAll(t *testing.T) {
	for x, c := range each(at(t, "2023-12-31"), at(t, "2025-02-28"), []int{0}, []int{1, 4}) {
		l := opened(t, x, c)
		part, _ := Pay(l, l.From+40, 2000)
		none, _ := Pay(l, l.From+40, 200000)
		for _, each := range []api.Loan{l, part, none} {
			refusesNoDays(t, each)
			for _, day := range watched(each) {
				goes(t, each, day)
			}
		}
	}
}

// TestEnds is of P22.2 and P22.3: loans at both ends of the days that are.
func TestEnds(t *testing.T) {
	for _, months := range []int{1, 3, 12} {
		for _, days := range [][2]int{{firstDay, firstDay + 1}, {firstDay, 500}, {lastDay - 500, lastDay}, {lastDay - 1, lastDay}} {
			for way := range 6 {
				x := year()
				x.Start, x.End, x.Months, x.Count = days[0], days[1], months, way
				l := opened(t, x, api.Cal{})
				for _, day := range watched(l) {
					goes(t, l, day)
				}
				// By months of 30 days the last of all days is none.
				if owed, e := Owed(l, lastDay); e != api.OK || way > api.CISDA && owed < 14 {
					t.Error(x, owed, e)
				}
			}
		}
	}
}

// TestGreatest is of P22.2 and P22.3: nothing goes round, of the greatest loans over 1200 years, nor is there interest of the least ones, or at no rate.
func TestGreatest(t *testing.T) {
	for _, w := range []struct{ money, rate, each int }{{9000000000000, 1000000, 900000000000000}, {api.MaxMoney, 9000, 900000000000000}, {api.MaxMoney, 0, 0}, {1, 0, 0}, {1, 5000, 0}, {3, 5000, 2}, {1, 1000000, 100}} {
		for _, way := range []int{api.CE, api.CAA, api.CICMA} {
			x := year()
			x.Money, x.Rate, x.Count = w.money, w.rate, way
			x.Start, x.End, x.Months = firstDay, 438292, 12
			l := opened(t, x, api.Cal{})
			for _, day := range watched(l) {
				goes(t, l, day)
			}
			if owed, e := Owed(l, lastDay); e != api.OK || owed != 1200*w.each {
				t.Errorf("%+v: %d, %d", w, owed, e)
			}
			if all, e := Quote(l, lastDay); e != api.OK || all != 1200*w.each+w.money {
				t.Errorf("%+v: %d, %d", w, all, e)
			}
		}
	}
}

// TestSameDay is of P22.2 and P22.3: days that are rolled to the same day, at the beginning, between, and at the end.
func TestSameDay(t *testing.T) {
	for _, w := range []struct {
		from, to string
		roll     int
	}{{"2024-03-01", "2024-04-20", api.LNext}, {"2024-06-01", "2024-07-20", api.LNext}, {"2024-07-10", "2024-08-20", api.LNext}, {"2024-07-01", "2024-08-20", api.LPrev}, {"2024-03-14", "2024-04-17", api.LPrev}} {
		x := year()
		x.Start, x.End, x.Months, x.Roll = at(t, "2024-03-15"), at(t, "2024-08-15"), 1, w.roll
		for x.Count = range 7 {
			l := opened(t, x, closed(at(t, w.from), at(t, w.to)))
			if once := slices.Compact(slices.Clone(l.Plan.Rolled)); len(once) >= len(l.Plan.Rolled) {
				t.Error(w, l.Plan.Rolled)
			}
			for _, day := range watched(l) {
				goes(t, l, day)
			}
		}
	}
}

// TestOneDay is of P22.2 and P22.3: a loan all of whose days are rolled to one bears nothing.
func TestOneDay(t *testing.T) {
	x := year()
	x.Start, x.End, x.Roll = at(t, "2024-03-15"), at(t, "2024-03-25"), api.LNext
	l := opened(t, x, closed(x.Start, x.End))
	if l.From != at(t, "2024-03-26") || lastOf(l) != l.From {
		t.Fatal(l)
	}
	for _, day := range watched(l) {
		goes(t, l, day)
		if owed, e := Owed(l, day); owed != 0 || e != api.OK {
			t.Error(day, owed, e)
		}
	}
}

// TestStepByStep is of P22.2: to a day in one step, in many, and by days that go back, is the same.
func TestStepByStep(t *testing.T) {
	r := rand.New(rand.NewSource(221))
	for range 200 {
		l := anyLoan(r)
		for _, day := range watched(l) {
			at := l
			for range 6 {
				at, _ = Go(at, firstDay+r.Intn(day))
			}
			at, _ = Go(at, day)
			if want, _ := Go(l, day); !same(at, want) {
				t.Fatalf("%+v to %d: %v, not %v", l.Terms, day, counters(at), counters(want))
			}
		}
	}
	l := opened(t, year(), weekends())
	for day := l.From - 5; day < lastOf(l)+5; day++ {
		later, e := Go(l, day)
		if want := gone(t, l, day); e != api.OK || !same(later, want) {
			t.Fatal(day, later, want)
		}
		l = later
	}
	if l.From != lastOf(l) || l.Due != 5070 {
		t.Error(counters(l))
	}
}

// TestDaysByChance is of P22.2 and P22.3: loans by chance, as they are opened, gone on with, and paid.
func TestDaysByChance(t *testing.T) {
	r := rand.New(rand.NewSource(222))
	for range 1500 {
		l := anyLoan(r)
		for range 3 {
			for _, day := range watched(l) {
				goes(t, l, day)
			}
			l, _ = Go(l, l.From+r.Intn(400))
			l, _ = Pay(l, min(l.From+r.Intn(200), lastDay), r.Intn(l.Open+l.Due+1))
		}
	}
}
