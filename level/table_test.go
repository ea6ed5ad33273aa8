package level

import (
	"math"
	"math/rand"
	"slices"
	"testing"

	"demurrage/api"
)

// TestByHand is of P20.1: tables reckoned by hand, field by field.
func TestByHand(t *testing.T) {
	// 12.5 is 12, 9.425 is 9, 6.3125 is 6, 3.1625 is 3; with 257 the last row would pay 259.
	quarterly(1000, 500, 4).told(t, 258, laid([5]int{1000, 12, 246, 258, 754}, [5]int{754, 9, 249, 258, 505}, [5]int{505, 6, 252, 258, 253}, [5]int{253, 3, 253, 256, 0}), api.OK)
	// 6978.8 is 6979, and 3655.5 is 3656, to the even half; with 40211 the last row would pay 40213.
	yearly(100000, 1000, 3).told(t, 40212, laid([5]int{100000, 10000, 30212, 40212, 69788}, [5]int{69788, 6979, 33233, 40212, 36555}, [5]int{36555, 3656, 36555, 40211, 0}), api.OK)
	// Each row pays the very same, and with one less the last one would pay 122.
	yearly(210, 1000, 2).told(t, 121, laid([5]int{210, 21, 100, 121, 110}, [5]int{110, 11, 110, 121, 0}), api.OK)
	// Parts that aren't alike: 1250, 1880.8, nothing, 940.4; with 26017 the last row would pay 26021.
	uneven := at(100000, 500, api.Ratio{N: 1, D: 4}, api.Ratio{N: 1, D: 2}, api.Ratio{N: 0, D: 1}, api.Ratio{N: 3, D: 4})
	uneven.told(t, 26018, laid([5]int{100000, 1250, 24768, 26018, 75232}, [5]int{75232, 1881, 24137, 26018, 51095}, [5]int{51095, 0, 26018, 26018, 25077}, [5]int{25077, 940, 25077, 26017, 0}), api.OK)
}

// TestMoreInterest is of P20.1: a row whose interest is more than the payment pays it, and nothing back.
func TestMoreInterest(t *testing.T) {
	year, quarter, none := api.Ratio{N: 1, D: 1}, api.Ratio{N: 1, D: 4}, api.Ratio{N: 0, D: 1}
	// In the first row: with 116 the last one would pay 119.
	at(300, 1000, api.Ratio{N: 10, D: 1}, year, year, none).told(t, 117, laid([5]int{300, 300, 0, 300, 300}, [5]int{300, 30, 87, 117, 213}, [5]int{213, 21, 96, 117, 117}, [5]int{117, 0, 117, 117, 0}), api.OK)
	// In the middle: with 575 the last one would pay 577.
	at(1000, 1000, year, api.Ratio{N: 20, D: 1}, year).told(t, 576, laid([5]int{1000, 100, 476, 576, 524}, [5]int{524, 1048, 0, 1048, 524}, [5]int{524, 52, 524, 576, 0}), api.OK)
	// In the last row all that is open is paid back, whatever its interest: with 415 it would pay 420.
	at(1000, 1000, quarter, quarter, api.Ratio{N: 10, D: 1}).told(t, 416, laid([5]int{1000, 25, 391, 416, 609}, [5]int{609, 15, 401, 416, 208}, [5]int{208, 208, 208, 416, 0}), api.OK)
	// In all rows but the last one.
	long := api.Ratio{N: 50, D: 1}
	at(10, 10000, long, long, long, none).told(t, 10, laid([5]int{10, 500, 0, 500, 10}, [5]int{10, 500, 0, 500, 10}, [5]int{10, 500, 0, 500, 10}, [5]int{10, 0, 10, 10, 0}), api.OK)
	// Interest that is just the payment pays nothing back, either; one coin more does.
	at(10, 10000, year, none).told(t, 10, laid([5]int{10, 10, 0, 10, 10}, [5]int{10, 0, 10, 10, 0}), api.OK)
	at(10, 9000, year, none).told(t, 10, laid([5]int{10, 9, 1, 10, 9}, [5]int{9, 0, 9, 9, 0}), api.OK)
	at(10, 11000, year, none).told(t, 10, laid([5]int{10, 11, 0, 11, 10}, [5]int{10, 0, 10, 10, 0}), api.OK)
}

// TestLessOpen is of P20.1: a row at which less is open than the payment pays back what is, and rows behind it nothing.
func TestLessOpen(t *testing.T) {
	yearly(5, 0, 4).told(t, 2, laid([5]int{5, 0, 2, 2, 3}, [5]int{3, 0, 2, 2, 1}, [5]int{1, 0, 1, 1, 0}, [5]int{}), api.OK)
	yearly(4, 10000, 4).told(t, 5, laid([5]int{4, 4, 1, 5, 3}, [5]int{3, 3, 2, 5, 1}, [5]int{1, 1, 1, 2, 0}, [5]int{}), api.OK)
	yearly(4, 0, 6).told(t, 1, laid([5]int{4, 0, 1, 1, 3}, [5]int{3, 0, 1, 1, 2}, [5]int{2, 0, 1, 1, 1}, [5]int{1, 0, 1, 1, 0}, [5]int{}, [5]int{}), api.OK)
	yearly(1, 10000, 4).told(t, 2, laid([5]int{1, 1, 1, 2, 0}, [5]int{}, [5]int{}, [5]int{}), api.OK)
	// A half is nothing, so that one coin is paid back at once; a bit more is one coin of interest, and then 1 pays nothing back.
	yearly(1, 5000, 2).told(t, 1, laid([5]int{1, 0, 1, 1, 0}, [5]int{}), api.OK)
	yearly(1, 5001, 2).told(t, 2, laid([5]int{1, 1, 1, 2, 0}, [5]int{}), api.OK)
	// Nothing is open, and yet a great part stands there.
	at(1, 10000, api.Ratio{N: 0, D: 1}, api.Ratio{N: 1000, D: 1}).told(t, 1, laid([5]int{1, 0, 1, 1, 0}, [5]int{}), api.OK)
}

// TestOnePart is of P20.1: money and its interest.
func TestOnePart(t *testing.T) {
	quarterly(1000, 500, 1).told(t, 1012, laid([5]int{1000, 12, 1000, 1012, 0}), api.OK)
	quarterly(3000, 500, 1).told(t, 3038, laid([5]int{3000, 38, 3000, 3038, 0}), api.OK)
	yearly(1, 0, 1).told(t, 1, laid([5]int{1, 0, 1, 1, 0}), api.OK)
	yearly(greatest, 10000, 1).told(t, 2*greatest, laid([5]int{greatest, greatest, greatest, 2 * greatest, 0}), api.OK)
	yearly(greatest, api.MaxRate, 1).told(t, 101*greatest, laid([5]int{greatest, 100 * greatest, greatest, 101 * greatest, 0}), api.OK)
	at(100000, 500, api.Ratio{N: 0, D: 1}).told(t, 100000, laid([5]int{100000, 0, 100000, 100000, 0}), api.OK)
	for _, money := range []int{0, 1, 2, 999, 12345, greatest} {
		for _, part := range usual() {
			at(money, 777, part).held(t)
		}
	}
}

// TestNoRate is of P20.1: money by the number of parts, rounded up, whatever the parts are.
func TestNoRate(t *testing.T) {
	for _, n := range []int{1, 2, 3, 4, 7, 11, 60, 1199, mostRows} {
		for _, money := range []int{0, 1, 2, 3, 6, 7, 10, 11, 12, 59, 60, 61, 1199, 1200, 1201, 2400, 2401, 99999, greatest - 1, greatest} {
			for _, part := range []api.Ratio{{N: 1, D: 4}, {N: 0, D: 1}, {N: 1 << 40, D: 1}} {
				l := lent{money, 0, repeated(part, n)}
				l.held(t)
				if got, e := Least(l.money, l.rate, l.parts); got != (money+n-1)/n || e != api.OK {
					t.Fatalf("Least(%+v) = %d, %d", l.few(), got, e)
				}
			}
		}
	}
}

// TestNoMoney is of P20.1: of nothing nothing is paid, whatever the rate is.
func TestNoMoney(t *testing.T) {
	for _, rate := range []int{0, 1, 500, api.MaxRate, most, math.MaxInt} {
		for n := 1; n <= len(usual()); n++ {
			l := lent{0, rate, usual()[:n]}
			l.told(t, 0, make([]api.Row, n), api.OK)
			l.held(t)
		}
		lent{0, rate, repeated(api.Ratio{N: most, D: 1}, mostRows)}.told(t, 0, make([]api.Row, mostRows), api.OK)
	}
}

// written holds the least payment and the table against ones that a function tells row by row.
func (l lent) written(t *testing.T, least int, row func(i, open int) api.Row) {
	t.Helper()
	rows, open := make([]api.Row, len(l.parts)), l.money
	for i := range rows {
		rows[i] = row(i, open)
		open = rows[i].Close
	}
	l.told(t, least, rows, api.OK)
	l.held(t)
}

// TestManyRows is of P20.1: 1200 rows, written out by what each one's number tells.
func TestManyRows(t *testing.T) {
	months, none := repeated(api.Ratio{N: 1, D: 12}, mostRows), repeated(api.Ratio{N: 0, D: 1}, mostRows)
	lent{1200000, 0, months}.written(t, 1000, func(_, open int) api.Row {
		return laid([5]int{open, 0, 1000, 1000, open - 1000})[0]
	})
	// 1198 times 1001, then 803, then nothing.
	lent{1200001, 0, months}.written(t, 1001, func(_, open int) api.Row {
		back := min(open, 1001)
		return laid([5]int{open, 0, back, back, open - back})[0]
	})
	// A year's interest in the first row is more than what the others need.
	first := slices.Clone(none)
	first[0] = api.Ratio{N: 1, D: 1}
	lent{1200, 10000, first}.written(t, 2, func(i, open int) api.Row {
		if i == 0 {
			return laid([5]int{1200, 1200, 0, 1200, 1200})[0]
		}
		back := min(open, 2)
		return laid([5]int{open, 0, back, back, open - back})[0]
	})
	// A year's interest in the last row: 1 of it, and 1 that is open there.
	last := slices.Clone(none)
	last[mostRows-1] = api.Ratio{N: 1, D: 1}
	lent{2399, 10000, last}.written(t, 2, func(i, open int) api.Row {
		if i == mostRows-1 {
			return laid([5]int{1, 1, 1, 2, 0})[0]
		}
		return laid([5]int{open, 0, 2, 2, open - 2})[0]
	})
	for _, money := range []int{1, 1199, 1200, 1201, 99999, greatest - 1, greatest} {
		for _, rate := range []int{1, 500, 10000, api.MaxRate} {
			lent{money, rate, months}.held(t)
			lent{money, rate, months[1:]}.held(t)
			lent{money, rate, someParts(rand.New(rand.NewSource(200)), mostRows)}.held(t)
		}
	}
}

// TestGreat is of P20.1: rates and parts as great as may be, with payments up to 2^62.
func TestGreat(t *testing.T) {
	all, quarter := api.Ratio{N: most - 1, D: 1}, api.Ratio{N: 1, D: 4}
	at(1, 10000, all).told(t, most, laid([5]int{1, most - 1, 1, most, 0}), api.OK)
	at(1, 10000, all, all).told(t, most, laid([5]int{1, most - 1, 1, most, 0}, [5]int{}), api.OK)
	at(1, 10000, all, quarter).told(t, 1, laid([5]int{1, most - 1, 0, most - 1, 1}, [5]int{1, 0, 1, 1, 0}), api.OK)
	at(1, 10000, quarter, all).told(t, 1, laid([5]int{1, 0, 1, 1, 0}, [5]int{}), api.OK)
	// 2^63 - 1 by 3600000 is 2562047788015.2.
	day := api.Ratio{N: 1, D: 360}
	at(1, math.MaxInt, day).told(t, 2562047788016, laid([5]int{1, 2562047788015, 1, 2562047788016, 0}), api.OK)
	at(1, math.MaxInt, day, day).told(t, 2562047788016, laid([5]int{1, 2562047788015, 1, 2562047788016, 0}, [5]int{}), api.OK)
	at(2, math.MaxInt, day, day).told(t, 5124095576031, laid([5]int{2, 5124095576030, 1, 5124095576031, 1}, [5]int{1, 2562047788015, 1, 2562047788016, 0}), api.OK)
	great := []api.Ratio{{N: 4000, D: 1}, {N: 1826029, D: 180}, {N: 1 << 31, D: 3}, {N: 1, D: 1844674407370955}, {N: most, D: 1844674407370955}, all}
	for _, money := range []int{0, 1, 2, 1000, 1000000, greatest} {
		for _, rate := range []int{0, 1, 2, 10000, api.MaxRate, most, math.MaxInt} {
			for i := range great {
				lent{money, rate, great[i:]}.held(t)
				lent{money, rate, great[:i+1]}.held(t)
				at(money, rate, great[i]).held(t)
				at(money, rate, quarter, great[i], quarter).held(t)
			}
		}
	}
}

// usual are parts of a year as plans tell them, and some that are longer.
func usual() []api.Ratio {
	return []api.Ratio{{N: 1, D: 4}, {N: 91, D: 360}, {N: 0, D: 1}, {N: 92, D: 365}, {N: 1, D: 2}, {N: 731, D: 133590}, {N: 1, D: 1}, {N: 20, D: 1}, {N: 1, D: 12}, {N: 29, D: 360}, {N: 3, D: 2}}
}

// someParts are so many of the usual ones, by chance.
func someParts(r *rand.Rand, n int) []api.Ratio {
	var parts []api.Ratio
	for range n {
		parts = append(parts, usual()[r.Intn(len(usual()))])
	}
	return parts
}

// TestTable is of P20.1 to P20.3: money, rates and parts of all sizes.
func TestTable(t *testing.T) {
	for _, money := range []int{0, 1, 2, 3, 7, 10, 99, 100, 1000, 99999, 1<<32 + 1, 900000000000, greatest - 1, greatest} {
		for _, rate := range []int{0, 1, 2, 499, 500, 4999, 5000, 10000, 10001, api.MaxRate - 1, api.MaxRate} {
			for n := 1; n <= len(usual()); n++ {
				lent{money, rate, usual()[:n]}.held(t)
				lent{money, rate, usual()[len(usual())-n:]}.held(t)
				quarterly(money, rate, n).held(t)
				yearly(money, rate, n).held(t)
			}
		}
	}
}

// TestTableByChance is of P20.1 to P20.3: any tables.
func TestTableByChance(t *testing.T) {
	r := rand.New(rand.NewSource(201))
	for range 6000 {
		money := r.Intn([]int{5, 100, 100000, 1000000000, greatest + 1}[r.Intn(5)])
		rate := r.Intn([]int{1, 10, 1000, 20000}[r.Intn(4)])
		l := lent{money, rate, someParts(r, 1+r.Intn([]int{3, 12, 60}[r.Intn(3)]))}
		l.held(t)
		if code := l.code(); code != api.OK {
			t.Fatal(l, code)
		}
	}
	for range 60 {
		lent{r.Intn(greatest + 1), r.Intn(3000), someParts(r, 1+r.Intn(mostRows))}.held(t)
	}
}
