package months

import (
	"math"
	"math/rand"
	"testing"
	"time"

	"demurrage/api"
)

// noDays are numbers that are no day's.
var noDays = []int{0, -1, -2, -31, -365, -3652059, 3652060, 3652061, 3652059 + 366, 1 << 31, 1 << 32, 1 << 62, math.MaxInt - 1, math.MaxInt,
	math.MinInt32, math.MinInt, math.MinInt + 1}

// farMonths are numbers of months that lead out of the years from any day.
var farMonths = []int{119988, -119988, 120000, -120000, 1 << 31, -1 << 31, 1 << 32, -1 << 32, 1 << 62, -1 << 62,
	math.MaxInt - 119988, math.MaxInt - 1, math.MaxInt, math.MinInt + 119988, math.MinInt + 1, math.MinInt}

// some are numbers of months that lead near and far.
var some = []int{0, 1, -1, 2, -2, 3, -3, 6, -6, 11, -11, 12, -12, 13, -13, 24, -24, 48, -48, 1200, -1200, 4800, -4800, 60000, -60000, 119987, -119987}

// at is a day as the library's calendar knows it, which goes by the Gregorian rule for all years too.
func at(n int) time.Time { return time.Date(1, time.January, n, 0, 0, 0, 0, time.UTC) }

// number is the number of the library's day, by how many seconds it is off from the first one.
func number(day time.Time) int { return int((day.Unix()-at(1).Unix())/86400) + 1 }

// day is the number of a day.
func day(y, m, d int) int { return number(time.Date(y, time.Month(m), d, 0, 0, 0, 0, time.UTC)) }

// moved is the day so many months on by the library's calendar: from the first day of that month on, as far as the month goes.
func moved(n, k int, eom bool) (int, api.Errno) {
	from := at(n)
	first := time.Date(from.Year(), from.Month()+time.Month(k), 1, 0, 0, 0, 0, time.UTC)
	if first.Year() < 1 || first.Year() > 9999 {
		return 0, api.ErrDay
	}
	days := from.Day()
	if eom && from.AddDate(0, 0, 1).Day() == 1 {
		days = 31
	}
	for days > 1 && first.AddDate(0, 0, days-1).Month() != first.Month() {
		days--
	}
	return number(first) + days - 1, api.OK
}

// TestLastAndEndOfAllDays are of P5.1: every day, as the library's calendar has it.
func TestLastAndEndOfAllDays(t *testing.T) {
	there := at(api.MinDay)
	for n := api.MinDay; n <= api.MaxDay; {
		next := there.AddDate(0, 1, 0)
		end := number(next) - 1
		for ; n <= end; n++ {
			if got := Last(n); got != (n == end) {
				t.Fatalf("Last(%d) = %v", n, got)
			}
			if got, e := End(n); got != end || e != api.OK {
				t.Fatalf("End(%d) = %d, %d, not %d", n, got, e, end)
			}
		}
		there = next
	}
}

// TestLast is of P5.1: last days of months of each length, and those ahead of them and behind.
func TestLast(t *testing.T) {
	for _, x := range []struct{ y, m, length int }{
		{2023, 1, 31}, {2023, 2, 28}, {2024, 2, 29}, {1900, 2, 28}, {2000, 2, 29}, {2100, 2, 28}, {2024, 4, 30}, {2024, 6, 30}, {2024, 9, 30}, {2024, 11, 30},
		{2024, 3, 31}, {2024, 7, 31}, {2024, 8, 31}, {2023, 12, 31}, {1, 1, 31}, {1, 2, 28}, {4, 2, 29}, {9996, 2, 29}, {9999, 11, 30},
	} {
		end := day(x.y, x.m, x.length)
		for off, want := range map[int]bool{-x.length + 1: false, -2: false, -1: false, 0: true, 1: false} {
			if got := Last(end + off); got != want {
				t.Errorf("Last of %d-%d-%d and %d on: %v", x.y, x.m, x.length, off, got)
			}
		}
	}
	if Last(1) || !Last(31) || Last(3652058) || !Last(3652059) {
		t.Error("the first month, or the last one")
	}
}

// TestNoDay is of P5.1, P5.2 and P5.3: numbers that are no day's.
func TestNoDay(t *testing.T) {
	for _, n := range noDays {
		if Last(n) {
			t.Errorf("Last(%d)", n)
		}
		if got, e := End(n); got != 0 || e != api.ErrDay {
			t.Errorf("End(%d) = %d, %d", n, got, e)
		}
		for _, k := range append(append([]int{}, some...), farMonths...) {
			if got, e := Shift(n, k); got != 0 || e != api.ErrDay {
				t.Errorf("Shift(%d, %d) = %d, %d", n, k, got, e)
			}
			for _, eom := range []bool{false, true} {
				if got, e := Move(n, k, eom); got != 0 || e != api.ErrDay {
					t.Errorf("Move(%d, %d, %v) = %d, %d", n, k, eom, got, e)
				}
			}
		}
	}
}

// TestFarMonths is of P5.2 and P5.3: so many months lead out of the years, and nothing goes round.
func TestFarMonths(t *testing.T) {
	for _, n := range []int{1, 31, 32, 365, 366, 738945, 730000, 3651694, 3652028, 3652029, 3652059} {
		for _, k := range farMonths {
			if got, e := Shift(n, k); got != 0 || e != api.ErrDay {
				t.Errorf("Shift(%d, %d) = %d, %d", n, k, got, e)
			}
			for _, eom := range []bool{false, true} {
				if got, e := Move(n, k, eom); got != 0 || e != api.ErrDay {
					t.Errorf("Move(%d, %d, %v) = %d, %d", n, k, eom, got, e)
				}
			}
		}
	}
}

// moves are days, months on, and where they lead: by Shift, and by Move with eom told.
var moves = []struct {
	y, m, d, k             int
	y1, m1, d1, y2, m2, d2 int
}{
	{2024, 1, 31, 1, 2024, 2, 29, 2024, 2, 29}, {2023, 1, 31, 1, 2023, 2, 28, 2023, 2, 28}, {2023, 2, 28, 1, 2023, 3, 28, 2023, 3, 31},
	{2024, 2, 28, 1, 2024, 3, 28, 2024, 3, 28}, {2024, 2, 29, 1, 2024, 3, 29, 2024, 3, 31}, {2024, 2, 29, 12, 2025, 2, 28, 2025, 2, 28},
	{2024, 2, 29, 48, 2028, 2, 29, 2028, 2, 29}, {2023, 2, 28, 12, 2024, 2, 28, 2024, 2, 29}, {2024, 2, 28, -12, 2023, 2, 28, 2023, 2, 28},
	{2024, 2, 29, -12, 2023, 2, 28, 2023, 2, 28}, {1900, 2, 28, 1200, 2000, 2, 28, 2000, 2, 29}, {2000, 2, 29, 1200, 2100, 2, 28, 2100, 2, 28},
	{2000, 2, 29, 4800, 2400, 2, 29, 2400, 2, 29}, {2000, 2, 29, -4800, 1600, 2, 29, 1600, 2, 29}, {2024, 1, 29, 1, 2024, 2, 29, 2024, 2, 29},
	{2024, 1, 30, 1, 2024, 2, 29, 2024, 2, 29}, {2023, 1, 28, 1, 2023, 2, 28, 2023, 2, 28}, {2023, 1, 29, 1, 2023, 2, 28, 2023, 2, 28},
	{2023, 1, 30, 1, 2023, 2, 28, 2023, 2, 28}, {2023, 3, 31, -1, 2023, 2, 28, 2023, 2, 28}, {2024, 3, 30, -1, 2024, 2, 29, 2024, 2, 29},
	{2024, 3, 31, 1, 2024, 4, 30, 2024, 4, 30}, {2024, 4, 30, 1, 2024, 5, 30, 2024, 5, 31}, {2024, 4, 30, -1, 2024, 3, 30, 2024, 3, 31},
	{2024, 4, 29, 1, 2024, 5, 29, 2024, 5, 29}, {2024, 3, 30, 1, 2024, 4, 30, 2024, 4, 30}, {2024, 5, 31, 0, 2024, 5, 31, 2024, 5, 31},
	{2024, 4, 30, 0, 2024, 4, 30, 2024, 4, 30}, {2024, 5, 30, 0, 2024, 5, 30, 2024, 5, 30}, {2024, 12, 31, 1, 2025, 1, 31, 2025, 1, 31},
	{2024, 1, 15, -1, 2023, 12, 15, 2023, 12, 15}, {2024, 11, 30, 1, 2024, 12, 30, 2024, 12, 31}, {2024, 11, 30, 14, 2026, 1, 30, 2026, 1, 31},
	{2024, 12, 1, 1, 2025, 1, 1, 2025, 1, 1}, {2024, 1, 1, -1, 2023, 12, 1, 2023, 12, 1}, {1, 2, 28, -1, 1, 1, 28, 1, 1, 31},
	{1, 12, 31, -11, 1, 1, 31, 1, 1, 31}, {9999, 11, 30, 1, 9999, 12, 30, 9999, 12, 31}, {9999, 1, 31, 11, 9999, 12, 31, 9999, 12, 31},
	{1, 1, 1, 119987, 9999, 12, 1, 9999, 12, 1}, {9999, 12, 31, -119987, 1, 1, 31, 1, 1, 31}, {1, 1, 31, 119986, 9999, 11, 30, 9999, 11, 30},
	{9999, 12, 31, -119986, 1, 2, 28, 1, 2, 28}, {5199, 12, 31, 57600, 9999, 12, 31, 9999, 12, 31},
}

// TestMoves are of P5.2 and P5.3: days cut by shorter months, and ends of months that stay.
func TestMoves(t *testing.T) {
	for _, x := range moves {
		from, shift, stay := day(x.y, x.m, x.d), day(x.y1, x.m1, x.d1), day(x.y2, x.m2, x.d2)
		if got, e := Shift(from, x.k); got != shift || e != api.OK {
			t.Errorf("Shift of %v = %d, %d, not %d", x, got, e, shift)
		}
		if got, e := Move(from, x.k, false); got != shift || e != api.OK {
			t.Errorf("Move of %v = %d, %d, not %d", x, got, e, shift)
		}
		if got, e := Move(from, x.k, true); got != stay || e != api.OK {
			t.Errorf("Move of %v with eom = %d, %d, not %d", x, got, e, stay)
		}
	}
}

// TestOutOfTheYears is of P5.2 and P5.3: months just ahead of year 1 and just behind 9999.
func TestOutOfTheYears(t *testing.T) {
	for _, x := range []struct{ y, m, d, k int }{
		{1, 1, 1, -1}, {1, 1, 31, -1}, {1, 12, 15, -12}, {1, 2, 28, -2}, {1, 12, 31, -12}, {2, 1, 1, -13}, {9999, 12, 31, -119988},
		{9999, 12, 31, 1}, {9999, 12, 1, 1}, {9999, 1, 15, 12}, {9999, 11, 30, 2}, {9999, 1, 1, 12}, {9998, 12, 31, 13}, {1, 1, 1, 119988},
		{9999, 2, 28, 11}, {5200, 1, 31, 57600},
	} {
		from := day(x.y, x.m, x.d)
		if got, e := Shift(from, x.k); got != 0 || e != api.ErrDay {
			t.Errorf("Shift of %v = %d, %d", x, got, e)
		}
		for _, eom := range []bool{false, true} {
			if got, e := Move(from, x.k, eom); got != 0 || e != api.ErrDay {
				t.Errorf("Move of %v, %v = %d, %d", x, eom, got, e)
			}
		}
		// One month nearer leads to a month of the years.
		near := x.k - 1
		if x.k < 0 {
			near = x.k + 1
		}
		if got, e := Shift(from, near); got == 0 || e != api.OK {
			t.Errorf("Shift of %v, by %d = %d, %d", x, near, got, e)
		}
	}
}

// held holds Shift and Move of a day against the library's calendar.
func held(t *testing.T, n, k int) {
	t.Helper()
	want, code := moved(n, k, false)
	if got, e := Shift(n, k); got != want || e != code {
		t.Fatalf("Shift(%d, %d) = %d, %d, not %d, %d", n, k, got, e, want, code)
	}
	if got, e := Move(n, k, false); got != want || e != code {
		t.Fatalf("Move(%d, %d, false) = %d, %d, not %d, %d", n, k, got, e, want, code)
	}
	want, code = moved(n, k, true)
	if got, e := Move(n, k, true); got != want || e != code {
		t.Fatalf("Move(%d, %d, true) = %d, %d, not %d, %d", n, k, got, e, want, code)
	}
}

// TestByLibrary is of P5.2 and P5.3: each day of years of each kind, and days of all years, by many numbers of months.
func TestByLibrary(t *testing.T) {
	for _, y := range []int{1, 4, 100, 1900, 2000, 2023, 2024, 9999} {
		for n := day(y, 1, 1); n <= day(y, 12, 31); n++ {
			for _, k := range some {
				held(t, n, k)
			}
		}
	}
	r := rand.New(rand.NewSource(5))
	for range 50000 {
		n := 1 + r.Intn(api.MaxDay)
		held(t, n, r.Intn(240001)-120000)
		held(t, n, r.Intn(101)-50)
	}
}

// monthOf is which month of all a day's is.
func monthOf(n int) int {
	there := at(n)
	return there.Year()*12 + int(there.Month())
}

// TestLaterWithMonths is of P5.4: of a greater k the day is later, and in the month that is so many on; moved back, the month is the one it was.
func TestLaterWithMonths(t *testing.T) {
	for _, n := range []int{1, 31, 59, 366, day(2023, 2, 28), day(2024, 1, 29), day(2024, 1, 30), day(2024, 1, 31), day(2024, 2, 28), day(2024, 2, 29), day(2024, 4, 30),
		day(2024, 12, 31), day(9999, 1, 31), day(9999, 11, 30), 3652059} {
		for _, eom := range []bool{false, true} {
			last := 0
			for k := -1300; k <= 1300; k++ {
				there, e := Move(n, k, eom)
				if e != api.OK {
					continue
				}
				if there <= last || monthOf(there) != monthOf(n)+k {
					t.Fatalf("Move(%d, %d, %v) = %d, and by one month less %d", n, k, eom, there, last)
				}
				last = there
				back, e := Move(there, -k, eom)
				if e != api.OK || monthOf(back) != monthOf(n) {
					t.Fatalf("Move(%d, %d, %v) = %d, %d, from %d", there, -k, eom, back, e, n)
				}
			}
		}
	}
}

// TestExamples are those of the chapter, of P5.2 and P5.3.
func TestExamples(t *testing.T) {
	if got, e := Shift(day(2024, 1, 31), 1); got != day(2024, 2, 29) || e != api.OK {
		t.Error(got, e)
	}
	if got, e := Move(day(2023, 2, 28), 1, false); got != day(2023, 3, 28) || e != api.OK {
		t.Error(got, e)
	}
	if got, e := Move(day(2023, 2, 28), 1, true); got != day(2023, 3, 31) || e != api.OK {
		t.Error(got, e)
	}
}
