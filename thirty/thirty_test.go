package thirty

import (
	"math"
	"math/rand"
	"testing"
	"time"

	"demurrage/api"
)

// at is a day as the library's calendar knows it.
func at(n int) time.Time { return time.Date(1, time.January, n, 0, 0, 0, 0, time.UTC) }

// day0 is the day ahead of the first one.
var day0 = at(0).Unix() / 86400

// number is the number of a day of the library's calendar.
func number(y, m, d int) int {
	return int(time.Date(y, time.Month(m), d, 0, 0, 0, 0, time.UTC).Unix()/86400 - day0)
}

// noDays are numbers that are no day's.
var noDays = []int{0, -1, -2, -366, 3652060, 3652061, 7304118, -3652059, math.MinInt, math.MinInt + 1, math.MaxInt, math.MaxInt - 1, 1 << 32, 1<<32 + 738945, -1 << 32, 1 << 62, -1 << 62}

// calls are all three, with what is told beside.
var calls = map[string]func(a, b int) (api.Ratio, api.Errno){
	"US":                  func(a, b int) (api.Ratio, api.Errno) { return US(a, b, false) },
	"US with eom":         func(a, b int) (api.Ratio, api.Errno) { return US(a, b, true) },
	"E":                   E,
	"Isda":                func(a, b int) (api.Ratio, api.Errno) { return Isda(a, b, 0) },
	"Isda to the end":     func(a, b int) (api.Ratio, api.Errno) { return Isda(a, b, b) },
	"Isda from the end":   func(a, b int) (api.Ratio, api.Errno) { return Isda(a, b, a) },
	"Isda to the last":    func(a, b int) (api.Ratio, api.Errno) { return Isda(a, b, 3652059) },
	"Isda ended far off":  func(a, b int) (api.Ratio, api.Errno) { return Isda(a, b, math.MaxInt) },
	"Isda ended far back": func(a, b int) (api.Ratio, api.Errno) { return Isda(a, b, math.MinInt) },
}

// lowest is a fraction by 360 in lowest terms, found by trying; 0 at least.
func lowest(days int) api.Ratio {
	if days <= 0 {
		return api.Ratio{N: 0, D: 1}
	}
	for by := 360; by > 1; by-- {
		if days%by == 0 && 360%by == 0 {
			return api.Ratio{N: days / by, D: 360 / by}
		}
	}
	return api.Ratio{N: days, D: 360}
}

// lastDay: is the day behind it of another month?
func lastDay(n int) bool { return at(n+1).Month() != at(n).Month() }

// lastOfFebruary: is it a February's last day?
func lastOfFebruary(n int) bool { return at(n).Month() == time.February && lastDay(n) }

// days are how many days of years of 360 of them two days are apart, by these days of the month.
func days(a, b, d1, d2 int) int {
	return 360*(at(b).Year()-at(a).Year()) + 30*(int(at(b).Month())-int(at(a).Month())) + d2 - d1
}

// us are the days of P7.2, in the order that it tells.
func us(a, b int, eom bool) int {
	d1, d2 := at(a).Day(), at(b).Day()
	if eom && lastOfFebruary(a) && lastOfFebruary(b) {
		d2 = 30
	}
	if eom && lastOfFebruary(a) {
		d1 = 30
	}
	if d2 == 31 && (d1 == 30 || d1 == 31) {
		d2 = 30
	}
	if d1 == 31 {
		d1 = 30
	}
	return days(a, b, d1, d2)
}

// european are the days of P7.3.
func european(a, b int) int {
	d1, d2 := at(a).Day(), at(b).Day()
	if d1 == 31 {
		d1 = 30
	}
	if d2 == 31 {
		d2 = 30
	}
	return days(a, b, d1, d2)
}

// isda are the days of P7.4.
func isda(a, b, end int) int {
	d1, d2 := at(a).Day(), at(b).Day()
	if lastDay(a) {
		d1 = 30
	}
	if lastDay(b) && !(b == end && at(b).Month() == time.February) {
		d2 = 30
	}
	return days(a, b, d1, d2)
}

// held holds all three, of two days that are in order, against the words of the chapter.
func held(t *testing.T, a, b int, ends ...int) {
	t.Helper()
	for _, eom := range []bool{false, true} {
		if got, e := US(a, b, eom); got != lowest(us(a, b, eom)) || e != api.OK {
			t.Fatalf("US(%d, %d, %v) = %v, %d, not %v: %v, %v", a, b, eom, got, e, lowest(us(a, b, eom)), at(a), at(b))
		}
	}
	if got, e := E(a, b); got != lowest(european(a, b)) || e != api.OK {
		t.Fatalf("E(%d, %d) = %v, %d, not %v: %v, %v", a, b, got, e, lowest(european(a, b)), at(a), at(b))
	}
	for _, end := range append(ends, a, b, b-1, b+1, 0, -1, 3652060, math.MinInt, math.MaxInt) {
		if got, e := Isda(a, b, end); got != lowest(isda(a, b, end)) || e != api.OK {
			t.Fatalf("Isda(%d, %d, %d) = %v, %d, not %v: %v, %v", a, b, end, got, e, lowest(isda(a, b, end)), at(a), at(b))
		}
	}
}

// TestNoDay is of P7.1: numbers that are no day, at either place and at both: ErrDay stands ahead of ErrOrder.
func TestNoDay(t *testing.T) {
	for name, call := range calls {
		for _, none := range noDays {
			for _, n := range append([]int{1, 31, 738945, 3652059}, noDays...) {
				if got, e := call(none, n); got != (api.Ratio{}) || e != api.ErrDay {
					t.Errorf("%s of %d and %d: %v, %d", name, none, n, got, e)
				}
				if got, e := call(n, none); got != (api.Ratio{}) || e != api.ErrDay {
					t.Errorf("%s of %d and %d: %v, %d", name, n, none, got, e)
				}
			}
		}
	}
}

// TestOrder is of P7.1: the first day behind the second one, though their months and days may stand for the same.
func TestOrder(t *testing.T) {
	for name, call := range calls {
		for _, x := range [][2]int{
			{2, 1}, {3652059, 1}, {3652059, 3652058}, {738946, 738945}, {738945, 738580}, {number(2024, 1, 31), number(2024, 1, 30)},
			{number(2024, 3, 1), number(2024, 2, 29)}, {number(2024, 2, 29), number(2024, 2, 28)}, {number(2025, 1, 1), number(2024, 12, 31)},
		} {
			if got, e := call(x[0], x[1]); got != (api.Ratio{}) || e != api.ErrOrder {
				t.Errorf("%s of %v: %v, %d", name, x, got, e)
			}
		}
	}
}

// TestSameDay is of the chapter's words and P7.1: it is 0, by 1, of days of all years, though one that is end may fall below itself.
func TestSameDay(t *testing.T) {
	for name, call := range calls {
		for n := api.MinDay; n <= api.MaxDay; n += 1 + n%40 {
			if got, e := call(n, n); got != (api.Ratio{N: 0, D: 1}) || e != api.OK {
				t.Fatalf("%s of %d twice: %v, %d", name, n, got, e)
			}
		}
	}
	for _, n := range []int{number(2023, 2, 28), number(2024, 2, 29), number(1900, 2, 28), number(2000, 2, 29), number(4, 2, 29), number(9999, 2, 28)} {
		if isda(n, n, n) >= 0 {
			t.Errorf("%v does not fall below itself", at(n))
		}
		if got, e := Isda(n, n, n); got != (api.Ratio{N: 0, D: 1}) || e != api.OK {
			t.Errorf("Isda(%d, %d, %d) = %v, %d", n, n, n, got, e)
		}
	}
}

// TestUS is of P7.2: ends of months at both days, with eom and without it.
func TestUS(t *testing.T) {
	for _, x := range []struct{ a, b, without, with int }{
		// Days from 28 to 31 at either end, out of February.
		{number(2024, 1, 28), number(2024, 3, 31), 63, 63}, {number(2024, 1, 29), number(2024, 3, 31), 62, 62},
		{number(2024, 1, 30), number(2024, 3, 31), 60, 60}, {number(2024, 1, 31), number(2024, 3, 31), 60, 60},
		{number(2024, 1, 31), number(2024, 3, 30), 60, 60}, {number(2024, 1, 31), number(2024, 3, 29), 59, 59}, {number(2024, 1, 31), number(2024, 3, 28), 58, 58},
		{number(2024, 1, 28), number(2024, 4, 30), 92, 92}, {number(2024, 4, 30), number(2024, 5, 31), 30, 30}, {number(2024, 4, 29), number(2024, 5, 31), 32, 32},
		{number(2024, 4, 30), number(2024, 5, 30), 30, 30}, {number(2024, 1, 30), number(2024, 1, 31), 0, 0}, {number(2024, 1, 29), number(2024, 1, 31), 2, 2},
		// February's last day first: of 28 and of 29 days.
		{number(2023, 2, 28), number(2023, 3, 1), 3, 1}, {number(2023, 2, 28), number(2023, 3, 28), 30, 28}, {number(2023, 2, 28), number(2023, 3, 30), 32, 30},
		{number(2023, 2, 28), number(2023, 3, 31), 33, 30}, {number(2024, 2, 29), number(2024, 3, 31), 32, 30}, {number(2024, 2, 29), number(2024, 3, 29), 30, 29},
		// The day ahead of it.
		{number(2024, 2, 28), number(2024, 3, 31), 33, 33}, {number(2024, 2, 28), number(2024, 2, 29), 1, 1}, {number(2023, 2, 27), number(2023, 2, 28), 1, 1},
		// February's last day second: it stays, but behind another one.
		{number(2023, 1, 31), number(2023, 2, 28), 28, 28}, {number(2023, 1, 30), number(2023, 2, 28), 28, 28}, {number(2024, 1, 31), number(2024, 2, 29), 29, 29},
		{number(2023, 2, 28), number(2024, 2, 29), 361, 360}, {number(2024, 2, 29), number(2025, 2, 28), 359, 360}, {number(2022, 2, 28), number(2023, 2, 28), 360, 360},
		{number(2024, 2, 29), number(2028, 2, 29), 1440, 1440}, {number(2024, 2, 28), number(2025, 2, 28), 360, 360}, {number(2023, 2, 28), number(2024, 2, 28), 360, 358},
		{number(2023, 2, 27), number(2024, 2, 29), 362, 362},
		// Centuries.
		{number(1900, 2, 28), number(1900, 3, 31), 33, 30}, {number(2000, 2, 28), number(2000, 3, 31), 33, 33}, {number(2000, 2, 29), number(2100, 2, 28), 35999, 36000},
		// Ordinary days.
		{number(2024, 1, 15), number(2024, 7, 15), 180, 180}, {number(2023, 11, 17), number(2024, 3, 5), 108, 108}, {number(2024, 2, 1), number(2024, 3, 1), 30, 30},
	} {
		if got, e := US(x.a, x.b, false); got != lowest(x.without) || e != api.OK {
			t.Errorf("US of %v and %v = %v, %d, not %d by 360", at(x.a), at(x.b), got, e, x.without)
		}
		if got, e := US(x.a, x.b, true); got != lowest(x.with) || e != api.OK {
			t.Errorf("US of %v and %v with eom = %v, %d, not %d by 360", at(x.a), at(x.b), got, e, x.with)
		}
	}
}

// TestE is of P7.3: 31 is 30 at both days, and February is as it is.
func TestE(t *testing.T) {
	for _, x := range []struct{ a, b, want int }{
		{number(2024, 1, 28), number(2024, 3, 31), 62}, {number(2024, 1, 29), number(2024, 3, 31), 61}, {number(2024, 1, 30), number(2024, 3, 31), 60},
		{number(2024, 1, 31), number(2024, 3, 31), 60}, {number(2024, 1, 31), number(2024, 3, 30), 60}, {number(2024, 1, 31), number(2024, 3, 28), 58},
		{number(2024, 1, 30), number(2024, 1, 31), 0}, {number(2024, 1, 1), number(2024, 1, 31), 29}, {number(2024, 1, 31), number(2024, 2, 1), 1},
		{number(2023, 2, 28), number(2023, 3, 31), 32}, {number(2023, 2, 28), number(2023, 3, 1), 3}, {number(2024, 2, 29), number(2024, 3, 31), 31},
		{number(2023, 1, 31), number(2023, 2, 28), 28}, {number(2023, 2, 28), number(2024, 2, 29), 361}, {number(2024, 2, 29), number(2025, 2, 28), 359},
		{number(2024, 1, 15), number(2024, 7, 15), 180}, {number(2024, 12, 31), number(2025, 1, 31), 30},
	} {
		if got, e := E(x.a, x.b); got != lowest(x.want) || e != api.OK {
			t.Errorf("E of %v and %v = %v, %d, not %d by 360", at(x.a), at(x.b), got, e, x.want)
		}
	}
}

// TestIsda is of P7.4: ends of months are 30, but February's that is end, at the second day.
func TestIsda(t *testing.T) {
	for _, x := range []struct{ a, b, end, want int }{
		{number(2023, 1, 31), number(2023, 2, 28), 0, 30}, {number(2023, 1, 31), number(2023, 2, 28), number(2023, 2, 28), 28},
		{number(2023, 1, 31), number(2023, 2, 28), number(2024, 2, 29), 30}, {number(2023, 1, 31), number(2023, 2, 28), number(2023, 3, 1), 30},
		{number(2024, 1, 31), number(2024, 2, 29), 0, 30}, {number(2024, 1, 31), number(2024, 2, 29), number(2024, 2, 29), 29}, {number(2024, 1, 31), number(2024, 2, 28), 0, 28},
		{number(2024, 1, 31), number(2024, 2, 28), number(2024, 2, 28), 28}, {number(2024, 1, 31), number(2024, 2, 29), number(2024, 2, 28), 30},
		// The first day is 30, though it is end.
		{number(2023, 2, 28), number(2023, 3, 15), number(2023, 2, 28), 15}, {number(2024, 2, 29), number(2024, 3, 15), number(2024, 2, 29), 15},
		{number(2023, 2, 28), number(2024, 2, 29), 0, 360}, {number(2023, 2, 28), number(2024, 2, 29), number(2024, 2, 29), 359}, {number(2024, 2, 29), number(2025, 2, 28), number(2025, 2, 28), 358},
		{number(2024, 2, 28), number(2024, 2, 29), 0, 2}, {number(2024, 2, 28), number(2024, 2, 29), number(2024, 2, 29), 1}, {number(2023, 2, 27), number(2023, 2, 28), number(2023, 2, 28), 1},
		// Out of February an end is as any other day.
		{number(2024, 1, 31), number(2024, 3, 31), number(2024, 3, 31), 60}, {number(2024, 1, 28), number(2024, 3, 31), number(2024, 3, 31), 62},
		{number(2024, 3, 31), number(2024, 4, 30), number(2024, 4, 30), 30}, {number(2024, 3, 30), number(2024, 4, 30), 0, 30}, {number(2024, 1, 30), number(2024, 1, 31), number(2024, 1, 31), 0},
		{number(2024, 1, 29), number(2024, 1, 31), 0, 1}, {number(2023, 2, 28), number(2023, 3, 31), 0, 30}, {number(2023, 2, 28), number(2023, 3, 29), 0, 29},
		{number(2023, 2, 28), number(2023, 3, 31), number(2023, 3, 31), 30}, {number(2024, 1, 15), number(2024, 7, 15), number(2024, 7, 15), 180},
	} {
		if got, e := Isda(x.a, x.b, x.end); got != lowest(x.want) || e != api.OK {
			t.Errorf("Isda of %v and %v, %d = %v, %d, not %d by 360", at(x.a), at(x.b), x.end, got, e, x.want)
		}
	}
}

// TestFirstAndLast are of P7.2 to P7.4: the first day of all and the last one.
func TestFirstAndLast(t *testing.T) {
	// 9998 years, 11 months and 30 days, or 29, if 31 is 30.
	long, cut := lowest(360*9998+330+30), lowest(360*9998+330+29)
	for _, eom := range []bool{false, true} {
		if got, e := US(1, 3652059, eom); got != long || got.D != 1 || e != api.OK {
			t.Errorf("US = %v, %d", got, e)
		}
	}
	if got, e := E(1, 3652059); got != cut || got.D != 360 || e != api.OK {
		t.Errorf("E = %v, %d", got, e)
	}
	if got, e := Isda(1, 3652059, 3652059); got != cut || e != api.OK {
		t.Errorf("Isda = %v, %d", got, e)
	}
}

// TestEachPairOfYears is of P7.2 to P7.4: each two days of spans that hold Februaries of both lengths.
func TestEachPairOfYears(t *testing.T) {
	for _, x := range [][2]int{{number(2023, 12, 1), number(2025, 3, 31)}, {number(1899, 12, 25), number(1900, 5, 2)}, {1, 100}, {3652059 - 100, 3652059}} {
		for a := x[0]; a <= x[1]; a++ {
			for b := a; b <= x[1]; b++ {
				held(t, a, b)
			}
		}
	}
}

// TestEndsOfMonths are of P7.2 to P7.4: the last four days and the first two ones of months of some years, each against the others, with each of them as end.
func TestEndsOfMonths(t *testing.T) {
	var edges []int
	for _, y := range []int{2000, 2023, 2024, 2100} {
		for _, m := range []int{2, 3, 4, 5, 9} {
			first := number(y, m, 1)
			edges = append(edges, first-4, first-3, first-2, first-1, first, first+1)
		}
	}
	for _, a := range edges {
		for _, b := range edges {
			if a <= b {
				held(t, a, b, edges...)
			}
		}
	}
}

// TestByChance are of P7.2 to P7.4: days of all years.
func TestByChance(t *testing.T) {
	r := rand.New(rand.NewSource(7))
	for range 20000 {
		a, b := 1+r.Intn(api.MaxDay), 1+r.Intn(api.MaxDay)
		held(t, min(a, b), max(a, b), 1+r.Intn(api.MaxDay))
		// Ends of Februaries are rare among all.
		a, b = number(1+r.Intn(9999), 3, r.Intn(3)-1), number(1+r.Intn(9999), 3, r.Intn(3)-1)
		held(t, min(a, b), max(a, b))
	}
}

// TestYearOn is of P7.5: a year on, to the same day, is 1 by all three, and k years on are k, but for Februaries' ends.
func TestYearOn(t *testing.T) {
	for n := number(2019, 1, 1); n <= number(2028, 12, 31); n++ {
		if lastOfFebruary(n) {
			continue
		}
		for _, k := range []int{1, 2, 4, 100, 7000} {
			on := at(n).AddDate(k, 0, 0)
			to := number(on.Year(), int(on.Month()), on.Day())
			if lastOfFebruary(to) {
				continue
			}
			for name, call := range calls {
				if got, e := call(n, to); got != (api.Ratio{N: k, D: 1}) || e != api.OK {
					t.Fatalf("%s of %v and %d years on: %v, %d", name, at(n), k, got, e)
				}
			}
		}
	}
}

// TestBy360 is of P7.5 and the chapter's words: parts are fractions by 360, in lowest terms.
func TestBy360(t *testing.T) {
	r := rand.New(rand.NewSource(75))
	met := map[int]bool{}
	for range 20000 {
		a := 1 + r.Intn(api.MaxDay-5000)
		b := a + r.Intn(5000)
		for name, call := range calls {
			got, e := call(a, b)
			if e != api.OK || got.D < 1 || 360%got.D != 0 || got.N < 0 || got != lowest(got.N*(360/got.D)) {
				t.Fatalf("%s of %d and %d: %v, %d", name, a, b, got, e)
			}
			met[got.D] = true
		}
	}
	// 360 has 24 numbers that divide it.
	if len(met) != 24 {
		t.Errorf("lowest terms by %v", met)
	}
}

// TestExamples are those of the chapter, of P7.2 to P7.4.
func TestExamples(t *testing.T) {
	for name, call := range calls {
		if got, e := call(number(2024, 1, 31), number(2024, 3, 31)); got != (api.Ratio{N: 1, D: 6}) || e != api.OK {
			t.Errorf("%s: %v, %d", name, got, e)
		}
	}
	if got, e := E(number(2023, 2, 28), number(2023, 3, 31)); got != (api.Ratio{N: 4, D: 45}) || e != api.OK {
		t.Error(got, e)
	}
	if got, e := Isda(number(2023, 2, 28), number(2023, 3, 31), 0); got != (api.Ratio{N: 1, D: 12}) || e != api.OK {
		t.Error(got, e)
	}
}
