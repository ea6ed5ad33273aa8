package accrue

import (
	"math"
	"math/rand"
	"slices"
	"testing"
	"time"

	"demurrage/api"
	"demurrage/count"
)

const (
	firstDay = 1
	lastDay  = 3652059
)

// at is a day's number, by the library's calendar, which goes by the Gregorian rule for all years too.
func at(y, m, d int) int {
	day := func(y int, m time.Month, d int) int64 { return time.Date(y, m, d, 0, 0, 0, 0, time.UTC).Unix() / 86400 }
	return int(day(y, time.Month(m), d) - day(1, time.January, 0))
}

// halves are periods of two a year.
func halves() []int {
	return []int{at(2022, 12, 31), at(2023, 6, 30), at(2023, 12, 31), at(2024, 6, 30), at(2024, 12, 31), at(2025, 6, 30)}
}

// noDays are numbers that are no day's.
func noDays() []int {
	return []int{0, -1, -366, lastDay + 1, lastDay + 2, 2 * lastDay, -lastDay, 1<<32 + 738945, -1 << 32, most, -most, math.MaxInt - 1, math.MaxInt, math.MinInt, math.MinInt + 1}
}

// noKinds are numbers of no way to count.
func noKinds() []int {
	return []int{-1, -2, -7, 7, 8, 13, 256, 1 << 32, 1<<32 + 3, -1 << 32, most, math.MaxInt, math.MinInt, math.MinInt + 3}
}

// sides are what a way may be told beside, and such that may not be.
func sides() []api.Side {
	l := []api.Side{{}, {Eom: true}, {End: at(2024, 2, 29)}, {Eom: true, End: at(2023, 2, 28)}, {End: -1, Freq: 13}, {Freq: 2}}
	for _, refs := range [][]int{halves(), halves()[:2], {firstDay, lastDay}, {at(2023, 2, 28), at(2023, 2, 28), at(2024, 2, 29)}, {at(2024, 6, 30), at(2023, 12, 31)}, {0, lastDay}, {}} {
		for _, freq := range []int{1, 2, 12, 0, 13} {
			l = append(l, api.Side{Freq: freq, Refs: refs}, api.Side{Eom: true, End: at(2024, 2, 29), Freq: freq, Refs: refs})
		}
	}
	return l
}

// pairs are days in order, the same day twice, days out of order, and numbers that are no day's.
func pairs() [][2]int {
	return [][2]int{
		{at(2023, 2, 28), at(2023, 3, 31)}, {at(2023, 2, 28), at(2024, 2, 29)}, {at(2023, 12, 31), at(2024, 1, 2)}, {at(2024, 1, 31), at(2024, 3, 31)}, {at(2024, 2, 29), at(2024, 3, 1)}, {at(2022, 12, 31), at(2025, 6, 30)}, {firstDay, lastDay}, {firstDay, firstDay + 1}, {lastDay - 1, lastDay},
		{at(2024, 2, 29), at(2024, 2, 29)}, {firstDay, firstDay}, {lastDay, lastDay}, {at(2024, 3, 1), at(2024, 2, 29)}, {lastDay, firstDay},
		{0, 5}, {5, 0}, {0, 0}, {lastDay, lastDay + 1}, {lastDay + 1, lastDay}, {math.MinInt, math.MaxInt}, {math.MaxInt, math.MinInt},
	}
}

// loan are terms of which Between reads a way to count and a rate.
func loan(way, rate int) api.Terms {
	return api.Terms{Money: 100000, Rate: rate, Count: way, Start: at(2023, 1, 1), End: at(2025, 1, 1), Months: 3}
}

// wantedBetween is P18.3, word by word.
func wantedBetween(x api.Terms, s api.Side, open, a, b int) (int, api.Errno) {
	part, e := count.Part(x.Count, a, b, s)
	if e != api.OK {
		return 0, e
	}
	return Of(open, x.Rate, part)
}

// between holds Between against what it should answer, and what it is told beside against what that was.
func between(t *testing.T, x api.Terms, s api.Side, open, a, b int, want int, code api.Errno) {
	t.Helper()
	refs := slices.Clone(s.Refs)
	if got, e := Between(x, s, open, a, b); got != want || e != code {
		t.Fatalf("Between(%+v, %+v, %d, %d, %d) = %d, %d, not %d, %d", x, s, open, a, b, got, e, want, code)
	}
	if !slices.Equal(s.Refs, refs) {
		t.Fatalf("Between(%+v, .., %d, %d, %d) leaves %v of %v", x, open, a, b, s.Refs, refs)
	}
}

// heldBetween holds Between against the chapters' words, and answers its code.
func heldBetween(t *testing.T, x api.Terms, s api.Side, open, a, b int) api.Errno {
	t.Helper()
	want, code := wantedBetween(x, s, open, a, b)
	between(t, x, s, open, a, b, want, code)
	return code
}

// TestBetween is of P18.3: all ways to count, for days of all sorts, with all that may stand beside, against chapter 10's Part and Of.
func TestBetween(t *testing.T) {
	met := map[api.Errno]int{}
	for way := -1; way <= 7; way++ {
		for _, s := range sides() {
			for _, p := range pairs() {
				for _, open := range []int{100000, 0, 1, 1000000000000000, math.MaxInt, -1} {
					for _, rate := range []int{500, 0, 1, 1000000, math.MaxInt, -1} {
						met[heldBetween(t, loan(way, rate), s, open, p[0], p[1])]++
					}
				}
			}
		}
	}
	for _, code := range []api.Errno{api.OK, api.ErrArg, api.ErrDay, api.ErrOrder, api.ErrSide, api.ErrOver} {
		if met[code] < 1000 {
			t.Error(met)
		}
	}
}

// TestReckoned is of P18.3: interest by each way, reckoned by hand.
func TestReckoned(t *testing.T) {
	february, march := at(2023, 2, 28), at(2023, 3, 31)
	beside := api.Side{Freq: 2, Refs: []int{at(2023, 2, 28), at(2023, 8, 31)}}
	for _, c := range []struct {
		way, a, b int
		s         api.Side
		want      int
	}{
		// Of 3600000 at 10000: a year's interest is 3600000. 33, 30, 32 and 30 days of 360; 31 of 360, of 365, and of 2 times 184.
		{api.CUS, february, march, api.Side{}, 330000}, {api.CUS, february, march, api.Side{Eom: true}, 300000}, {api.CE, february, march, api.Side{}, 320000}, {api.CISDA, february, march, api.Side{}, 300000},
		{api.CA360, february, march, api.Side{}, 310000}, {api.CA365, february, march, api.Side{}, 305753}, {api.CAA, february, march, api.Side{}, 305753}, {api.CICMA, february, march, beside, 303261},
		// Up to the end of February of a leap year: 329 days of 360, and 330 unless that is the last day of all; 336 days of 360, of 365, and 277 and 59 by the years.
		{api.CUS, at(2023, 3, 30), at(2024, 2, 29), api.Side{}, 3290000}, {api.CE, at(2023, 3, 30), at(2024, 2, 29), api.Side{}, 3290000}, {api.CISDA, at(2023, 3, 30), at(2024, 2, 29), api.Side{}, 3300000}, {api.CISDA, at(2023, 3, 30), at(2024, 2, 29), api.Side{End: at(2024, 2, 29)}, 3290000},
		{api.CA360, at(2023, 3, 30), at(2024, 2, 29), api.Side{}, 3360000}, {api.CA365, at(2023, 3, 30), at(2024, 2, 29), api.Side{}, 3313973}, {api.CAA, at(2023, 3, 30), at(2024, 2, 29), api.Side{}, 3312383},
		// Whole periods, and periods of other lengths.
		{api.CICMA, at(2023, 6, 30), at(2023, 12, 31), api.Side{Freq: 2, Refs: halves()}, 1800000}, {api.CICMA, at(2022, 12, 31), at(2025, 6, 30), api.Side{Freq: 2, Refs: halves()}, 9000000}, {api.CICMA, at(2023, 6, 30), at(2023, 12, 31), api.Side{Freq: 4, Refs: halves()}, 900000}, {api.CICMA, at(2024, 1, 31), at(2024, 2, 29), api.Side{Freq: 12, Refs: []int{at(2024, 1, 31), at(2024, 2, 29)}}, 300000},
		{api.CICMA, at(2023, 6, 30), at(2023, 9, 30), api.Side{Freq: 2, Refs: halves()}, 900000}, {api.CICMA, at(2023, 6, 30), at(2023, 9, 30), api.Side{Freq: 2, Refs: []int{at(2023, 6, 30), at(2023, 12, 30)}}, 904918},
	} {
		between(t, loan(c.way, 10000), c.s, 3600000, c.a, c.b, c.want, api.OK)
	}
	// The example of chapter 22: 90 days by 360.
	between(t, loan(api.CA360, 500), api.Side{}, 100000, 738945, 739035, 1250, api.OK)
	// Halves: 12.5, 37.5.
	between(t, loan(api.CE, 500), api.Side{}, 1000, at(2024, 1, 15), at(2024, 4, 15), 12, api.OK)
	between(t, loan(api.CE, 500), api.Side{}, 3000, at(2024, 1, 15), at(2024, 4, 15), 38, api.OK)
}

// TestSameDayTwice is of P18.3: from a day to itself there is no interest, by each way.
func TestSameDayTwice(t *testing.T) {
	for way := range 7 {
		for _, n := range []int{firstDay, firstDay + 1, at(2023, 2, 28), at(2023, 12, 31), at(2024, 1, 31), at(2024, 2, 29), lastDay - 1, lastDay} {
			s := api.Side{Freq: 1, Refs: []int{firstDay, lastDay}}
			for _, rate := range []int{0, 500, 1000000} {
				between(t, loan(way, rate), s, 1000000000000000, n, n, 0, api.OK)
			}
			between(t, loan(way, 500), s, -1, n, n, 0, api.ErrArg)
		}
	}
}

// wrongs are what Of refuses: what is open, and a rate.
func wrongs() [][2]int {
	return [][2]int{{-1, 500}, {100000, -1}, {-1, -1}, {math.MinInt, math.MinInt}, {math.MaxInt, math.MaxInt}, {most, most}}
}

// TestNoDay is of P18.3: numbers that are no day's, at either place, by each way, ahead of what Of refuses.
func TestNoDay(t *testing.T) {
	s := api.Side{Freq: 2, Refs: halves()}
	for way := range 7 {
		for _, none := range noDays() {
			for _, w := range append(wrongs(), [2]int{100000, 500}, [2]int{0, 0}) {
				for _, n := range []int{firstDay, halves()[0], lastDay, none} {
					between(t, loan(way, w[1]), s, w[0], none, n, 0, api.ErrDay)
					between(t, loan(way, w[1]), s, w[0], n, none, 0, api.ErrDay)
					between(t, loan(way, w[1]), api.Side{}, w[0], n, none, 0, api.ErrDay)
				}
			}
		}
	}
}

// TestOrder is of P18.3: days out of order, by each way, ahead of what Of refuses.
func TestOrder(t *testing.T) {
	for way := range 7 {
		for _, s := range sides() {
			for _, w := range append(wrongs(), [2]int{100000, 500}, [2]int{0, 0}) {
				for _, p := range [][2]int{{2, 1}, {lastDay, lastDay - 1}, {lastDay, firstDay}, {halves()[3], halves()[0]}, {at(2024, 3, 1), at(2024, 2, 29)}} {
					between(t, loan(way, w[1]), s, w[0], p[0], p[1], 0, api.ErrOrder)
				}
			}
		}
	}
}

// TestSide is of P18.3: periods that may not be, or don't hold both days, by the way by periods alone, ahead of what Of refuses.
func TestSide(t *testing.T) {
	h := halves()
	a, b := h[0], h[5]
	for _, s := range []api.Side{
		{}, {Freq: 2}, {Refs: h}, {Freq: 2, Refs: []int{}}, {Freq: 2, Refs: h[:1]}, {Freq: 0, Refs: h}, {Freq: -1, Refs: h}, {Freq: 13, Refs: h}, {Freq: math.MaxInt, Refs: h}, {Freq: 2, Refs: []int{b, a}}, {Freq: 2, Refs: []int{a, a}}, {Freq: 2, Refs: []int{a, h[2], h[1], b}}, {Freq: 2, Refs: make([]int, 1205)}, {Freq: 2, Refs: []int{0, b}},
		// These may be, but a day is beyond them.
		{Freq: 2, Refs: h[1:]}, {Freq: 2, Refs: h[:5]}, {Freq: 2, Refs: []int{a + 1, b}}, {Freq: 2, Refs: []int{a, b - 1}}, {Freq: 2, Refs: []int{firstDay, a}}, {Freq: 2, Refs: []int{b, lastDay}}, {Freq: 12, Refs: h[1:3]},
	} {
		for _, w := range append(wrongs(), [2]int{100000, 500}, [2]int{0, 0}) {
			between(t, loan(api.CICMA, w[1]), s, w[0], a, b, 0, api.ErrSide)
			for way := range 6 {
				if e := heldBetween(t, loan(way, w[1]), s, w[0], a, b); e == api.ErrSide {
					t.Errorf("by %d: %d", way, e)
				}
			}
		}
	}
	// Just these periods hold both.
	between(t, loan(api.CICMA, 500), api.Side{Freq: 2, Refs: h}, 100000, a, b, 12500, api.OK)
	between(t, loan(api.CICMA, 500), api.Side{Freq: 1, Refs: []int{a, b}}, 100000, a, b, 5000, api.OK)
}

// TestNoWay is of P18.3: numbers of no way to count are ErrArg, whatever the days are.
func TestNoWay(t *testing.T) {
	for _, way := range noKinds() {
		for _, s := range sides() {
			for _, p := range pairs() {
				between(t, loan(way, 500), s, 100000, p[0], p[1], 0, api.ErrArg)
			}
		}
	}
}

// TestRefused is of P18.3: what Of refuses where chapter 10's Part tells a part, with 0.
func TestRefused(t *testing.T) {
	s := api.Side{Freq: 2, Refs: halves()}
	a, b := halves()[1], halves()[2]
	for way := range 7 {
		for _, low := range below() {
			between(t, loan(way, 500), s, low, a, b, 0, api.ErrArg)
			between(t, loan(way, low), s, 100000, a, b, 0, api.ErrArg)
			between(t, loan(way, low), s, low, a, b, 0, api.ErrArg)
			between(t, loan(way, low), s, math.MaxInt, a, b, 0, api.ErrArg)
		}
		between(t, loan(way, math.MaxInt), s, math.MaxInt, a, b, 0, api.ErrOver)
		between(t, loan(way, 20000), s, math.MaxInt, a, b, 0, api.ErrOver)
		between(t, loan(way, math.MaxInt), s, 20000, a, b, 0, api.ErrOver)
	}
	// The most that is told by half a year, and a little more.
	between(t, loan(api.CICMA, 10000), s, math.MaxInt, a, b, most, api.OK)
	between(t, loan(api.CICMA, 10001), s, math.MaxInt, a, b, 0, api.ErrOver)
	// All days, most money, greatest rates.
	between(t, loan(api.CA360, 1000000), api.Side{}, 1000000000000000, firstDay, lastDay, 0, api.ErrOver)
	between(t, loan(api.CA360, 10000), api.Side{}, 100000000000000, firstDay, lastDay, 1014460555555555556, api.OK)
}

// TestByTheSide is of P18.3: Eom turns one way, End another one, Freq and Refs the last one, and no others.
func TestByTheSide(t *testing.T) {
	a, b := at(2023, 2, 28), at(2024, 2, 29)
	plain := api.Side{Freq: 2, Refs: halves()}
	for name, c := range map[string]struct {
		s   api.Side
		way int
	}{
		"Eom": {api.Side{Eom: true, Freq: 2, Refs: halves()}, api.CUS}, "End": {api.Side{End: b, Freq: 2, Refs: halves()}, api.CISDA}, "Freq": {api.Side{Freq: 3, Refs: halves()}, api.CICMA}, "Refs": {api.Side{Freq: 2, Refs: []int{a - 100, b}}, api.CICMA}, "no Refs": {api.Side{Freq: 2}, api.CICMA},
	} {
		for way := range 7 {
			before, _ := Between(loan(way, 500), plain, 100000000, a, b)
			got, e := Between(loan(way, 500), c.s, 100000000, a, b)
			if (got != before) != (way == c.way) {
				t.Errorf("%s, by %d: %d, then %d, %d", name, way, before, got, e)
			}
		}
	}
}

// TestOtherTerms is of P18.3: no field of the terms but Rate and Count turns what is told, be it as it may.
func TestOtherTerms(t *testing.T) {
	numbers := []int{0, 1, 2, 3, 4, 5, 12, -1, 738945, lastDay, lastDay + 1, 1000000000000001, math.MaxInt, math.MinInt}
	puts := []func(x *api.Terms, n int){
		func(x *api.Terms, n int) { x.Money = n }, func(x *api.Terms, n int) { x.Kind = n }, func(x *api.Terms, n int) { x.Start = n }, func(x *api.Terms, n int) { x.End = n }, func(x *api.Terms, n int) { x.Months = n }, func(x *api.Terms, n int) { x.Roll = n },
		func(x *api.Terms, n int) { x.Back = n%2 != 0 }, func(x *api.Terms, n int) { x.Long = n%2 != 0 }, func(x *api.Terms, n int) { x.Eom = n%2 != 0 },
	}
	sides := []api.Side{{Freq: 2, Refs: halves()}, {Eom: true, End: at(2024, 2, 29), Freq: 2, Refs: halves()}, {}}
	for way := range 7 {
		for _, s := range sides {
			for _, p := range [][2]int{{at(2023, 2, 28), at(2024, 2, 29)}, {at(2023, 2, 28), at(2023, 3, 31)}, {5, 4}} {
				bare := api.Terms{Rate: 725, Count: way}
				want, code := Between(bare, s, 12345678, p[0], p[1])
				between(t, loan(way, 725), s, 12345678, p[0], p[1], want, code)
				for _, put := range puts {
					for _, n := range numbers {
						x, y := bare, loan(way, 725)
						put(&x, n)
						put(&y, n)
						between(t, x, s, 12345678, p[0], p[1], want, code)
						between(t, y, s, 12345678, p[0], p[1], want, code)
					}
				}
			}
		}
	}
}

// TestRateAndCount is of P18.3: the terms' Rate and Count both turn what is told.
func TestRateAndCount(t *testing.T) {
	a, b := at(2023, 2, 28), at(2023, 3, 31)
	s := api.Side{Freq: 2, Refs: []int{at(2023, 2, 28), at(2023, 8, 31)}}
	met := map[int]bool{}
	for way := range 7 {
		last := -1
		for _, rate := range []int{0, 1, 500, 501, 1000000} {
			got, e := Between(loan(way, rate), s, 1000000000, a, b)
			if e != api.OK || got <= last {
				t.Errorf("by %d at %d: %d, %d", way, rate, got, e)
			}
			last = got
		}
		met[last] = true
	}
	// Of the seven two count these days by 365.
	if len(met) != 6 {
		t.Error(met)
	}
}

// TestDayByDay is of P18.3 and P18.4: a day later it isn't less, by the ways that count days as they are.
func TestDayByDay(t *testing.T) {
	s := api.Side{Freq: 2, Refs: halves()}
	for _, way := range []int{api.CA360, api.CA365, api.CAA, api.CICMA} {
		last := 0
		for b := halves()[0]; b <= halves()[5]; b++ {
			if e := heldBetween(t, loan(way, 725), s, 5000, halves()[0], b); e != api.OK {
				t.Fatal(way, b, e)
			}
			got, _ := Between(loan(way, 725), s, 5000, halves()[0], b)
			if got < last {
				t.Fatalf("by %d: %d, a day later %d", way, last, got)
			}
			last = got
		}
	}
}

// TestBetweenByChance is of P18.3: against chapter 10's Part and Of.
func TestBetweenByChance(t *testing.T) {
	r := rand.New(rand.NewSource(186))
	met := map[api.Errno]int{}
	for range 30000 {
		q := someQuestion(r)
		met[heldBetween(t, q.x, q.s, q.open, q.a, q.b)]++
	}
	for _, code := range []api.Errno{api.OK, api.ErrArg, api.ErrDay, api.ErrOrder, api.ErrSide, api.ErrOver} {
		if met[code] < 100 {
			t.Error(met)
		}
	}
}
