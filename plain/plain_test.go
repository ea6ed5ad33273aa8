package plain

import (
	"math"
	"math/big"
	"math/rand"
	"slices"
	"testing"

	"demurrage/accrue"
	"demurrage/api"
)

const (
	greatest = 1000000000000000
	most     = 1 << 62
	mostRows = 1200
)

// call is either call.
type call func(money, rate int, parts []api.Ratio) ([]api.Row, api.Errno)

// calls are both, by their names.
func calls() map[string]call { return map[string]call{"Bullet": Bullet, "Equal": Equal} }

// wantedBack is P19.1: what is paid back in a row.
func wantedBack(name string, money, open, row, rows int) int {
	switch {
	case row == rows-1:
		return open
	case name == "Bullet":
		return 0
	}
	return int(new(big.Int).Div(big.NewInt(int64(money)), big.NewInt(int64(rows))).Int64())
}

// wanted is P19.1 and P19.2, word by word, with interest by chapter 18's Of.
func wanted(name string, money, rate int, parts []api.Ratio) ([]api.Row, api.Errno) {
	if len(parts) == 0 || len(parts) > mostRows {
		return nil, api.ErrArg
	}
	if money < 0 || money > greatest {
		return nil, api.ErrBound
	}
	var rows []api.Row
	open := money
	for i, part := range parts {
		interest, e := accrue.Of(open, rate, part)
		if e != api.OK {
			return nil, e
		}
		back := wantedBack(name, money, open, i, len(parts))
		rows = append(rows, api.Row{Open: open, Int: interest, Back: back, Pay: interest + back, Close: open - back})
		open -= back
	}
	if rows[len(rows)-1].Pay > most {
		return nil, api.ErrOver
	}
	return rows, api.OK
}

// told holds a call against what it should answer, and the parts against what they were.
func told(t *testing.T, name string, money, rate int, parts []api.Ratio, want []api.Row, code api.Errno) {
	t.Helper()
	before := slices.Clone(parts)
	got, e := calls()[name](money, rate, parts)
	if e != code || !slices.Equal(got, want) {
		t.Fatalf("%s(%d, %d, %v) = %v, %d, not %v, %d", name, money, rate, short(parts), got, e, want, code)
	}
	if !slices.Equal(parts, before) {
		t.Fatalf("%s(%d, %d, %v) leaves %v", name, money, rate, before, parts)
	}
}

// short are the first of many parts, for a line that can be read.
func short(parts []api.Ratio) []api.Ratio { return parts[:min(len(parts), 12)] }

// held holds a call against the chapter's words, and its rows against P19.3.
func held(t *testing.T, name string, money, rate int, parts []api.Ratio) api.Errno {
	t.Helper()
	want, code := wanted(name, money, rate, parts)
	told(t, name, money, rate, parts, want, code)
	if code == api.OK {
		follows(t, money, want)
	}
	return code
}

// follows holds rows against P19.3, and against what the words say of a row by itself.
func follows(t *testing.T, money int, rows []api.Row) {
	t.Helper()
	back, open := 0, money
	for i, row := range rows {
		if row.Open != open || row.Pay != row.Int+row.Back || row.Close != row.Open-row.Back {
			t.Fatalf("%d: %+v of %d", i, row, open)
		}
		if row.Close < 0 || row.Close > money || row.Int < 0 || row.Back < 0 {
			t.Fatalf("%d: %+v of %d", i, row, money)
		}
		back, open = back+row.Back, row.Close
	}
	if back != money || open != 0 {
		t.Fatalf("%d of %d is paid back, and %d left open: %v", back, money, open, rows)
	}
}

// heldBoth holds both calls, which must be told so.
func heldBoth(t *testing.T, money, rate int, parts []api.Ratio) {
	t.Helper()
	for name := range calls() {
		if e := held(t, name, money, rate, parts); e != api.OK {
			t.Fatalf("%s(%d, %d, %v): %d", name, money, rate, short(parts), e)
		}
	}
}

// alike are so many parts that are the same.
func alike(n int, part api.Ratio) []api.Ratio { return slices.Repeat([]api.Ratio{part}, n) }

// laid are rows by their numbers: Open, Int, Back, Pay, Close.
func laid(all [][5]int) []api.Row {
	rows := make([]api.Row, 0, len(all))
	for _, n := range all {
		rows = append(rows, api.Row{Open: n[0], Int: n[1], Back: n[2], Pay: n[3], Close: n[4]})
	}
	return rows
}

// usual are parts of a year as plans tell them.
func usual() []api.Ratio {
	return []api.Ratio{{N: 1, D: 4}, {N: 91, D: 360}, {N: 0, D: 1}, {N: 92, D: 365}, {N: 1, D: 2}, {N: 731, D: 133590}, {N: 1, D: 1}, {N: 1, D: 12}, {N: 366, D: 365}, {N: 29, D: 360}, {N: 3, D: 2}}
}

// someParts are so many of the usual ones, by chance.
func someParts(r *rand.Rand, n int) []api.Ratio {
	parts := make([]api.Ratio, n)
	for i := range parts {
		parts[i] = usual()[r.Intn(len(usual()))]
	}
	return parts
}

// TestConstants holds the bounds of these tests against the given ones.
func TestConstants(t *testing.T) {
	if api.MaxMoney != greatest || api.MaxNum != most || api.MaxRows != mostRows {
		t.Error(api.MaxMoney, api.MaxNum, api.MaxRows)
	}
}

// TestExample is the chapter's one.
func TestExample(t *testing.T) {
	for _, part := range usual() {
		told(t, "Equal", 100, 0, alike(3, part), laid([][5]int{{100, 0, 33, 33, 67}, {67, 0, 33, 33, 34}, {34, 0, 34, 34, 0}}), api.OK)
	}
}

// TestByHand is of P19.1: tables reckoned by hand, field by field.
func TestByHand(t *testing.T) {
	quarters, years := alike(4, api.Ratio{N: 1, D: 4}), alike(3, api.Ratio{N: 1, D: 1})
	// 12.5 is 12 each time, to the even half.
	told(t, "Bullet", 1000, 500, quarters, laid([][5]int{{1000, 12, 0, 12, 1000}, {1000, 12, 0, 12, 1000}, {1000, 12, 0, 12, 1000}, {1000, 12, 1000, 1012, 0}}), api.OK)
	// 12.5, 9.375, 6.25, 3.125.
	told(t, "Equal", 1000, 500, quarters, laid([][5]int{{1000, 12, 250, 262, 750}, {750, 9, 250, 259, 500}, {500, 6, 250, 256, 250}, {250, 3, 250, 253, 0}}), api.OK)
	// 37.5 is 38.
	told(t, "Bullet", 3000, 500, quarters[:2], laid([][5]int{{3000, 38, 0, 38, 3000}, {3000, 38, 3000, 3038, 0}}), api.OK)
	told(t, "Bullet", 300, 1000, years, laid([][5]int{{300, 30, 0, 30, 300}, {300, 30, 0, 30, 300}, {300, 30, 300, 330, 0}}), api.OK)
	told(t, "Equal", 300, 1000, years, laid([][5]int{{300, 30, 100, 130, 200}, {200, 20, 100, 120, 100}, {100, 10, 100, 110, 0}}), api.OK)
	// 10000, 6666.7, 3333.4, and what doesn't go into three parts at the end.
	told(t, "Equal", 100000, 1000, years, laid([][5]int{{100000, 10000, 33333, 43333, 66667}, {66667, 6667, 33333, 40000, 33334}, {33334, 3333, 33334, 36667, 0}}), api.OK)
	// Two coins are left beside 33333 three times.
	told(t, "Equal", 100001, 0, years, laid([][5]int{{100001, 0, 33333, 33333, 66668}, {66668, 0, 33333, 33333, 33335}, {33335, 0, 33335, 33335, 0}}), api.OK)
	// Parts that aren't alike: 1250, then 2500 of all and 1250 of half of it, then nothing.
	uneven := []api.Ratio{{N: 1, D: 4}, {N: 1, D: 2}, {N: 0, D: 1}, {N: 3, D: 4}}
	told(t, "Bullet", 100000, 500, uneven, laid([][5]int{{100000, 1250, 0, 1250, 100000}, {100000, 2500, 0, 2500, 100000}, {100000, 0, 0, 0, 100000}, {100000, 3750, 100000, 103750, 0}}), api.OK)
	told(t, "Equal", 100000, 500, uneven, laid([][5]int{{100000, 1250, 25000, 26250, 75000}, {75000, 1875, 25000, 26875, 50000}, {50000, 0, 25000, 25000, 25000}, {25000, 938, 25000, 25938, 0}}), api.OK)
}

// TestFewCoins is of P19.1: less money than there are rows is paid back in the last one, or all of it coin by coin.
func TestFewCoins(t *testing.T) {
	years := alike(5, api.Ratio{N: 1, D: 1})
	told(t, "Equal", 4, 10000, years, laid([][5]int{{4, 4, 0, 4, 4}, {4, 4, 0, 4, 4}, {4, 4, 0, 4, 4}, {4, 4, 0, 4, 4}, {4, 4, 4, 8, 0}}), api.OK)
	told(t, "Equal", 5, 10000, years, laid([][5]int{{5, 5, 1, 6, 4}, {4, 4, 1, 5, 3}, {3, 3, 1, 4, 2}, {2, 2, 1, 3, 1}, {1, 1, 1, 2, 0}}), api.OK)
	told(t, "Equal", 6, 10000, years, laid([][5]int{{6, 6, 1, 7, 5}, {5, 5, 1, 6, 4}, {4, 4, 1, 5, 3}, {3, 3, 1, 4, 2}, {2, 2, 2, 4, 0}}), api.OK)
	told(t, "Equal", 9, 0, years, laid([][5]int{{9, 0, 1, 1, 8}, {8, 0, 1, 1, 7}, {7, 0, 1, 1, 6}, {6, 0, 1, 1, 5}, {5, 0, 5, 5, 0}}), api.OK)
	told(t, "Equal", 1, 5000, years[:2], laid([][5]int{{1, 0, 0, 0, 1}, {1, 0, 1, 1, 0}}), api.OK)
	told(t, "Bullet", 1, 5001, years[:2], laid([][5]int{{1, 1, 0, 1, 1}, {1, 1, 1, 2, 0}}), api.OK)
	for name := range calls() {
		told(t, name, 0, api.MaxRate, years, slices.Repeat([]api.Row{{}}, 5), api.OK)
		told(t, name, 0, math.MaxInt, years[:1], []api.Row{{}}, api.OK)
	}
}

// TestOneRow is of P19.1: of one part both calls tell the same, all of it paid back.
func TestOneRow(t *testing.T) {
	for name := range calls() {
		told(t, name, 1000, 500, []api.Ratio{{N: 1, D: 4}}, laid([][5]int{{1000, 12, 1000, 1012, 0}}), api.OK)
		told(t, name, 1, 0, []api.Ratio{{N: 1, D: 4}}, laid([][5]int{{1, 0, 1, 1, 0}}), api.OK)
		told(t, name, greatest, 10000, []api.Ratio{{N: 1, D: 1}}, laid([][5]int{{greatest, greatest, greatest, 2 * greatest, 0}}), api.OK)
		told(t, name, 100000, 500, []api.Ratio{{N: 0, D: 1}}, laid([][5]int{{100000, 0, 100000, 100000, 0}}), api.OK)
	}
}

// TestManyRows is of P19.1: 1200 rows, written out by what each one's number tells.
func TestManyRows(t *testing.T) {
	months := alike(mostRows, api.Ratio{N: 1, D: 12})
	var bullet, equal []api.Row
	for i := range mostRows - 1 {
		bullet = append(bullet, api.Row{Open: 1200007, Int: 1000, Pay: 1000, Close: 1200007})
		open := 1200007 - i*1000
		// A 120th of what is open, which ends in 7, so that no half is left.
		interest := (open + 60) / 120
		equal = append(equal, api.Row{Open: open, Int: interest, Back: 1000, Pay: interest + 1000, Close: open - 1000})
	}
	bullet = append(bullet, api.Row{Open: 1200007, Int: 1000, Back: 1200007, Pay: 1201007})
	equal = append(equal, api.Row{Open: 1007, Int: 8, Back: 1007, Pay: 1015})
	told(t, "Bullet", 1200007, 100, months, bullet, api.OK)
	told(t, "Equal", 1200007, 1000, months, equal, api.OK)
	rows, e := Equal(greatest, 0, months)
	if e != api.OK || len(rows) != mostRows || !slices.Equal([]api.Row{rows[0], rows[mostRows-1]}, laid([][5]int{{greatest, 0, 833333333333, 833333333333, 999166666666667}, {833333333733, 0, 833333333733, 833333333733, 0}})) {
		t.Error(len(rows), e)
	}
	for _, money := range []int{0, 1, 1199, 1200, 1201, 2399, 2400, 2401, greatest - 1, greatest} {
		for _, n := range []int{mostRows, mostRows - 1} {
			heldBoth(t, money, 500, months[:n])
		}
	}
}

// TestTable is of P19.1: each field of each row against the words, and interest against chapter 18's Of, for money and rates of all sizes.
func TestTable(t *testing.T) {
	moneys := []int{0, 1, 2, 3, 6, 7, 10, 11, 12, 99, 100, 1000, 99999, 1<<32 + 1, 900000000000, 999999999999999, greatest}
	for _, money := range moneys {
		for _, rate := range []int{0, 1, 2, 499, 500, 4999, 5000, 10000, 10001, api.MaxRate - 1, api.MaxRate} {
			for n := 1; n <= len(usual()); n++ {
				// Some of these are too great: no bound ties money and rate to each other here.
				for name := range calls() {
					held(t, name, money, rate, usual()[:n])
				}
				heldBoth(t, money, min(rate, 10000), usual()[len(usual())-n:])
				heldBoth(t, money, rate, alike(n, api.Ratio{N: 1, D: 4}))
				heldBoth(t, money, rate, alike(n, api.Ratio{N: 0, D: 1}))
			}
		}
	}
}

// TestGreatParts is of P19.1: parts of many years, and such by great numbers.
func TestGreatParts(t *testing.T) {
	great := []api.Ratio{{N: 4000, D: 1}, {N: 1826029, D: 180}, {N: 1 << 31, D: 3}, {N: 1, D: 1844674407370955}, {N: most, D: 1844674407370955}, {N: most - 1, D: 1}}
	heldBoth(t, 1, 1, great)
	told(t, "Bullet", 1, 20000, great, nil, api.ErrOver)
	told(t, "Bullet", 1, 20000, great[:5], laid([][5]int{{1, 8000, 0, 8000, 1}, {1, 20289, 0, 20289, 1}, {1, 1431655765, 0, 1431655765, 1}, {1, 0, 0, 0, 1}, {1, 5000, 1, 5001, 0}}), api.OK)
	for _, money := range []int{1, 2, 1000, 1000000, greatest} {
		for _, rate := range []int{0, 1, 10000, api.MaxRate, most, math.MaxInt} {
			for from := range great {
				for name := range calls() {
					held(t, name, money, rate, great[from:])
					held(t, name, money, rate, great[:from+1])
				}
			}
		}
	}
}

// TestGreatRates is of P19.1: no rate is too high as long as interest isn't.
func TestGreatRates(t *testing.T) {
	day := []api.Ratio{{N: 1, D: 360}, {N: 1, D: 360}}
	// 2^63 - 1 by 3600000 is 2562047788015.2.
	told(t, "Bullet", 1, math.MaxInt, day, laid([][5]int{{1, 2562047788015, 0, 2562047788015, 1}, {1, 2562047788015, 1, 2562047788016, 0}}), api.OK)
	told(t, "Equal", 2, math.MaxInt, day, laid([][5]int{{2, 5124095576030, 1, 5124095576031, 1}, {1, 2562047788015, 1, 2562047788016, 0}}), api.OK)
	for _, rate := range []int{api.MaxRate, api.MaxRate + 1, most - 1, most, most + 1, math.MaxInt - 1, math.MaxInt} {
		heldBoth(t, 1000, rate, day)
		heldBoth(t, 0, rate, day)
		heldBoth(t, greatest, rate, alike(3, api.Ratio{N: 0, D: 1}))
	}
}

// TestByChance is of P19.1 to P19.3: any tables.
func TestByChance(t *testing.T) {
	r := rand.New(rand.NewSource(191))
	for range 4000 {
		money := r.Intn([]int{5, 100, 100000, 1000000000, greatest + 1}[r.Intn(5)])
		rate := r.Intn([]int{1, 10, 1000, 20000}[r.Intn(4)])
		parts := someParts(r, 1+r.Intn([]int{3, 12, 60}[r.Intn(3)]))
		heldBoth(t, money, rate, parts)
	}
	for range 60 {
		heldBoth(t, r.Intn(greatest+1), r.Intn(3000), someParts(r, 1+r.Intn(mostRows)))
	}
}
