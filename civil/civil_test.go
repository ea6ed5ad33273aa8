package civil

import (
	"math"
	"math/rand"
	"testing"
	"time"

	"demurrage/api"
)

// far are numbers far off on both ways.
var far = []int{math.MinInt, math.MinInt + 1, math.MinInt32, -3652059, -1000000, -400, 1000000, 1 << 31, 1 << 32, 1 << 62, math.MaxInt - 1, math.MaxInt}

// at is a day as the library's calendar knows it, which goes by the Gregorian rule for all years too.
func at(n int) time.Time { return time.Date(1, time.January, n, 0, 0, 0, 0, time.UTC) }

// leapByCount tells a leap year by counting up (or down) from 2000, without a division.
func leapByCount(y int) bool {
	leap, step := true, 1
	if y < 2000 {
		step = -1
	}
	four, hundred, fourHundred := 0, 0, 0
	for at := 2000; at != y; at += step {
		if four++; four == 4 {
			four = 0
		}
		if hundred++; hundred == 100 {
			hundred = 0
		}
		if fourHundred++; fourHundred == 400 {
			fourHundred = 0
		}
		leap = four == 0 && hundred != 0 || fourHundred == 0
	}
	return leap
}

// TestLeap is of P4.1: years that 4, 100 and 400 divide, and others, also below 1.
func TestLeap(t *testing.T) {
	for y, want := range map[int]bool{
		1: false, 3: false, 4: true, 5: false, 99: false, 100: false, 200: false, 300: false, 400: true, 401: false, 404: true,
		1582: false, 1600: true, 1700: false, 1800: false, 1900: false, 1996: true, 2000: true, 2023: false, 2024: true, 2100: false,
		2400: true, 9996: true, 9999: false, 10000: true, 10100: false, 10400: true,
		0: true, -1: false, -2: false, -3: false, -4: true, -96: true, -99: false, -100: false, -200: false, -300: false, -400: true, -401: false, -404: true,
		math.MinInt: true, math.MinInt + 1: false, math.MinInt + 8: false, math.MinInt + 12: true, math.MaxInt: false, math.MaxInt - 3: true, math.MaxInt - 7: false,
	} {
		if got := Leap(y); got != want {
			t.Errorf("Leap(%d) = %v", y, got)
		}
	}
}

// TestLeapByCount is of P4.1: each year of some centuries on both sides of 1.
func TestLeapByCount(t *testing.T) {
	for y := -900; y <= 2900; y++ {
		if got, want := Leap(y), leapByCount(y); got != want {
			t.Errorf("Leap(%d) = %v", y, got)
		}
	}
}

// TestLength is of P4.1: each month of each year, as long as the library's calendar has it.
func TestLength(t *testing.T) {
	for y := 1; y <= 9999; y++ {
		for m := 1; m <= 12; m++ {
			// The day ahead of the next month's first one.
			want := time.Date(y, time.Month(m+1), 0, 0, 0, 0, 0, time.UTC).Day()
			if got := Length(y, m); got != want {
				t.Errorf("Length(%d, %d) = %d, not %d", y, m, got, want)
			}
		}
	}
}

// TestLengthOfAnyYear is of P4.1: years of which no day may be have months as well.
func TestLengthOfAnyYear(t *testing.T) {
	for _, x := range []struct{ y, m, want int }{
		{0, 1, 31}, {0, 2, 29}, {-1, 2, 28}, {-4, 2, 29}, {-100, 2, 28}, {-400, 2, 29}, {-1, 4, 30}, {-1, 12, 31},
		{10000, 2, 29}, {10001, 2, 28}, {10100, 2, 28}, {10000, 9, 30}, {math.MaxInt, 2, 28}, {math.MinInt, 2, 29}, {math.MinInt + 8, 2, 28}, {math.MinInt, 11, 30},
	} {
		if got := Length(x.y, x.m); got != x.want {
			t.Errorf("Length(%d, %d) = %d, not %d", x.y, x.m, got, x.want)
		}
	}
}

// TestLengthOfNoMonth is of P4.1: what isn't a month has no days.
func TestLengthOfNoMonth(t *testing.T) {
	for _, y := range []int{-4, 0, 1, 1900, 2023, 2024, 9999, 10000, math.MinInt, math.MaxInt} {
		for _, m := range append([]int{0, -1, -2, -12, 13, 14, 24, 2 + 12}, far...) {
			if got := Length(y, m); got != 0 {
				t.Errorf("Length(%d, %d) = %d", y, m, got)
			}
		}
	}
}

// edges are days at the bounds, and whether they may be.
var edges = []struct {
	c   api.Civil
	may bool
}{
	{api.Civil{Y: 1, M: 1, D: 1}, true}, {api.Civil{Y: 9999, M: 12, D: 31}, true}, {api.Civil{Y: 2024, M: 2, D: 29}, true},
	{api.Civil{}, false}, {api.Civil{Y: 0, M: 12, D: 31}, false}, {api.Civil{Y: 0, M: 1, D: 1}, false}, {api.Civil{Y: 0, M: 2, D: 29}, false},
	{api.Civil{Y: 10000, M: 1, D: 1}, false}, {api.Civil{Y: 10000, M: 2, D: 29}, false}, {api.Civil{Y: -1, M: 1, D: 1}, false},
	{api.Civil{Y: -2024, M: 2, D: 28}, false}, {api.Civil{Y: math.MinInt, M: 1, D: 1}, false}, {api.Civil{Y: math.MaxInt, M: 1, D: 1}, false},
	{api.Civil{Y: 1, M: 0, D: 1}, false}, {api.Civil{Y: 1, M: 0, D: 0}, false}, {api.Civil{Y: 1, M: 13, D: 0}, false}, {api.Civil{Y: 9999, M: 13, D: 1}, false},
	{api.Civil{Y: 2024, M: -1, D: 1}, false}, {api.Civil{Y: 2024, M: math.MinInt, D: 1}, false}, {api.Civil{Y: 2024, M: math.MaxInt, D: 1}, false},
	{api.Civil{Y: 2023, M: 2, D: 28}, true}, {api.Civil{Y: 2023, M: 2, D: 29}, false}, {api.Civil{Y: 2023, M: 2, D: 30}, false},
	{api.Civil{Y: 2024, M: 2, D: 28}, true}, {api.Civil{Y: 2024, M: 2, D: 30}, false},
	{api.Civil{Y: 1900, M: 2, D: 28}, true}, {api.Civil{Y: 1900, M: 2, D: 29}, false}, {api.Civil{Y: 2000, M: 2, D: 29}, true}, {api.Civil{Y: 2000, M: 2, D: 30}, false},
	{api.Civil{Y: 2024, M: 1, D: 31}, true}, {api.Civil{Y: 2024, M: 1, D: 32}, false}, {api.Civil{Y: 2024, M: 4, D: 30}, true}, {api.Civil{Y: 2024, M: 4, D: 31}, false},
	{api.Civil{Y: 2024, M: 12, D: 31}, true}, {api.Civil{Y: 2024, M: 12, D: 32}, false},
	{api.Civil{Y: 2024, M: 1, D: 0}, false}, {api.Civil{Y: 2024, M: 3, D: 0}, false}, {api.Civil{Y: 2024, M: 3, D: -1}, false},
	{api.Civil{Y: 2024, M: 3, D: math.MinInt}, false}, {api.Civil{Y: 2024, M: 3, D: math.MaxInt}, false},
}

// TestMay is of P4.1: days at the bounds. Of those that may not be, P4.2 wants a code and no number.
func TestMay(t *testing.T) {
	for _, x := range edges {
		if got := May(x.c); got != x.may {
			t.Errorf("May(%v) = %v", x.c, got)
		}
		if n, e := Number(x.c); x.may != (e == api.OK) || !x.may && (n != 0 || e != api.ErrDay) {
			t.Errorf("Number(%v) = %d, %d", x.c, n, e)
		}
	}
}

// TestMayByLibrary is of P4.1 and P4.2: months 0 to 13 and days 0 to 32 of years of each kind: what the library's calendar leaves as it stands may be, and nothing else.
func TestMayByLibrary(t *testing.T) {
	for _, y := range []int{-1, 0, 1, 2, 4, 100, 400, 1900, 2000, 2023, 2024, 9996, 9999, 10000} {
		for m := 0; m <= 13; m++ {
			for d := 0; d <= 32; d++ {
				c := api.Civil{Y: y, M: m, D: d}
				there := time.Date(y, time.Month(m), d, 0, 0, 0, 0, time.UTC)
				want := y >= 1 && y <= 9999 && there.Year() == y && int(there.Month()) == m && there.Day() == d
				if got := May(c); got != want {
					t.Errorf("May(%v) = %v", c, got)
				}
				if n, e := Number(c); want != (e == api.OK) || want != (n != 0) || !want && e != api.ErrDay {
					t.Errorf("Number(%v) = %d, %d", c, n, e)
				}
			}
		}
	}
}

// TestAllDays is of P4.2, P4.3 and P4.4: every number, there and back, as the library's calendar has it, each day behind the one ahead.
func TestAllDays(t *testing.T) {
	there := at(1)
	for n := api.MinDay; n <= api.MaxDay; n++ {
		y, m, d := there.Date()
		want := api.Civil{Y: y, M: int(m), D: d}
		if c, e := Of(n); c != want || e != api.OK {
			t.Fatalf("Of(%d) = %v, %d, not %v", n, c, e, want)
		}
		if back, e := Number(want); back != n || e != api.OK {
			t.Fatalf("Number(%v) = %d, %d, not %d", want, back, e, n)
		}
		// The library counts from Sunday.
		if got := Weekday(n); got != (int(there.Weekday())+6)%7 {
			t.Fatalf("Weekday(%d) = %d", n, got)
		}
		if !May(want) {
			t.Fatalf("May(%v) = false", want)
		}
		there = there.AddDate(0, 0, 1)
	}
	if there.Year() != 10000 {
		t.Error("the last day is not the last one of 9999", there)
	}
}

// TestEachDayOnce is of P4.4: the days that may be, one by one as they follow each other, have the numbers from 1 to 3652059, each one.
func TestEachDayOnce(t *testing.T) {
	next := 1
	for y := 1; y <= 9999; y++ {
		for m := 1; m <= 12; m++ {
			for d := 1; d <= Length(y, m); d++ {
				c := api.Civil{Y: y, M: m, D: d}
				if n, e := Number(c); n != next || e != api.OK {
					t.Fatalf("Number(%v) = %d, %d, not %d", c, n, e, next)
				}
				next++
			}
		}
	}
	if next != 3652060 {
		t.Errorf("%d days", next-1)
	}
}

// numbered are days and their numbers, at the turns of years, of centuries and of 400 years.
var numbered = []struct {
	c api.Civil
	n int
}{
	{api.Civil{Y: 1, M: 1, D: 1}, 1}, {api.Civil{Y: 1, M: 1, D: 31}, 31}, {api.Civil{Y: 1, M: 2, D: 1}, 32}, {api.Civil{Y: 1, M: 12, D: 31}, 365},
	{api.Civil{Y: 2, M: 1, D: 1}, 366}, {api.Civil{Y: 4, M: 2, D: 29}, 3*365 + 60}, {api.Civil{Y: 4, M: 12, D: 31}, 1461}, {api.Civil{Y: 5, M: 1, D: 1}, 1462},
	{api.Civil{Y: 100, M: 12, D: 31}, 36524}, {api.Civil{Y: 101, M: 1, D: 1}, 36525}, {api.Civil{Y: 400, M: 12, D: 30}, 146096},
	{api.Civil{Y: 400, M: 12, D: 31}, 146097}, {api.Civil{Y: 401, M: 1, D: 1}, 146098}, {api.Civil{Y: 800, M: 12, D: 31}, 2 * 146097},
	{api.Civil{Y: 2000, M: 12, D: 31}, 5 * 146097}, {api.Civil{Y: 2001, M: 1, D: 1}, 5*146097 + 1}, {api.Civil{Y: 1970, M: 1, D: 1}, 719163},
	{api.Civil{Y: 2024, M: 2, D: 29}, 738945}, {api.Civil{Y: 9999, M: 12, D: 31}, 3652059},
}

// TestNumbered is of P4.2.
func TestNumbered(t *testing.T) {
	for _, x := range numbered {
		if n, e := Number(x.c); n != x.n || e != api.OK {
			t.Errorf("Number(%v) = %d, %d, not %d", x.c, n, e, x.n)
		}
		if c, e := Of(x.n); c != x.c || e != api.OK {
			t.Errorf("Of(%d) = %v, %d, not %v", x.n, c, e, x.c)
		}
	}
}

// TestOfNoDay is of P4.2: numbers that are no day's.
func TestOfNoDay(t *testing.T) {
	for _, n := range append([]int{0, -1, -2, -365, -146097, 3652060, 3652061, 3652059 + 366}, far...) {
		if n >= api.MinDay && n <= api.MaxDay {
			continue
		}
		if c, e := Of(n); c != (api.Civil{}) || e != api.ErrDay {
			t.Errorf("Of(%d) = %v, %d", n, c, e)
		}
	}
}

// TestWeekday is of P4.3: the days of weeks, on both sides of the bounds.
func TestWeekday(t *testing.T) {
	for _, x := range []struct{ n, want int }{
		{1, 0}, {2, 1}, {6, 5}, {7, 6}, {8, 0}, {0, 6}, {-1, 5}, {-5, 1}, {-6, 0}, {-7, 6}, {-13, 0},
		{719163, 3}, {738945, 3}, {146097, 6}, {146098, 0}, {3652059, 4}, {3652060, 5}, {3652061, 6}, {3652062, 0},
	} {
		if got := Weekday(x.n); got != x.want {
			t.Errorf("Weekday(%d) = %d, not %d", x.n, got, x.want)
		}
	}
}

// TestWeekdayFarOff is of P4.3: the greatest numbers on both ways.
func TestWeekdayFarOff(t *testing.T) {
	// 2^63 leaves 1 by 7, for 2^3 does. So MaxInt, which is 2^63 - 1, is as 0, and MinInt as -1.
	for _, x := range []struct{ n, want int }{
		{math.MaxInt, 6}, {math.MaxInt - 1, 5}, {math.MaxInt - 6, 0}, {math.MaxInt - 7, 6}, {math.MinInt, 5}, {math.MinInt + 1, 6}, {math.MinInt + 2, 0}, {math.MinInt + 8, 6},
		{1 << 62, 3}, {-1 << 62, 2}, {1 << 32, 3},
	} {
		if got := Weekday(x.n); got != x.want {
			t.Errorf("Weekday(%d) = %d, not %d", x.n, got, x.want)
		}
	}
}

// TestWeekdaysFollow is of P4.3: of any number, the next one's day of the week is the next one, and that of 7 on the same.
func TestWeekdaysFollow(t *testing.T) {
	r := rand.New(rand.NewSource(4))
	starts := []int{math.MinInt, -100, -1, 0, 1, 3652000, math.MaxInt - 50}
	for range 1000 {
		starts = append(starts, int(r.Uint64())/2)
	}
	for _, from := range starts {
		for n := from; n < from+40; n++ {
			day, next := Weekday(n), Weekday(n+1)
			if day < 0 || day > 6 || next != (day+1)%7 || Weekday(n+7) != day {
				t.Fatalf("Weekday(%d) = %d, of the next one %d, of 7 on %d", n, day, next, Weekday(n+7))
			}
		}
	}
}

// TestExamples are those of the chapter, P4.2 and P4.3.
func TestExamples(t *testing.T) {
	n, e := Number(api.Civil{Y: 2024, M: 2, D: 29})
	if n != 738945 || e != api.OK || Weekday(n) != 3 {
		t.Error(n, e, Weekday(n))
	}
}
