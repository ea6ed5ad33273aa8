package easter

import (
	"math"
	"math/rand"
	"sync"
	"testing"
	"time"

	"demurrage/api"
	"demurrage/civil"
)

const (
	firstYear = 1
	lastYear  = 9999
)

// day0 is the day ahead of the first one, as the library's calendar knows it, which goes by the Gregorian rule for all years too.
var day0 = time.Date(1, time.January, 0, 0, 0, 0, 0, time.UTC).Unix() / 86400

// number is the number of a day of the library's calendar.
func number(y, m, d int) int {
	return int(time.Date(y, time.Month(m), d, 0, 0, 0, 0, time.UTC).Unix()/86400 - day0)
}

// noYears are numbers of no year of which there is a day.
var noYears = []int{0, -1, -2, -3, -4, -19, -100, -400, -2024, -9999, -10000, 10000, 10001, 10002, 10019, 10100, 12024, 20000, 99999, 1 << 16, 1<<16 + 2024,
	math.MaxInt32, math.MinInt32, 1 << 32, 1<<32 + 2024, -1 << 32, -1<<32 + 2024, 1 << 62, -1 << 62, 1<<62 + 2024,
	math.MaxInt, math.MaxInt - 1, math.MaxInt - 2024, math.MinInt, math.MinInt + 1, math.MinInt + 2024}

// floor is a quotient rounded down, told by counting: it uses neither / nor %.
func floor(a, by int) (often, left int) {
	for a >= by {
		often, a = often+1, a-by
	}
	for a < 0 {
		often, a = often-1, a+by
	}
	return often, a
}

// letters are what the chapter reckons of a year: age is its E ahead of being one more, and full its N behind being 30 more.
type letters struct{ g, c, x, z, age, e, n, full int }

// reckoned are the chapter's letters, step by step.
func reckoned(y int) letters {
	var l letters
	_, left := floor(y, 19)
	l.g = left + 1
	centuries, _ := floor(y, 100)
	l.c = centuries + 1
	l.x, _ = floor(3*l.c, 4)
	l.x -= 12
	l.z, _ = floor(8*l.c+5, 25)
	l.z -= 5
	_, l.age = floor(11*l.g+20+l.z-l.x, 30)
	l.e = l.age
	switch {
	case l.age == 25 && l.g > 11:
		l.e = 26
	case l.age == 24:
		l.e = 25
	}
	l.n = 44 - l.e
	l.full = l.n
	if l.n < 21 {
		l.full += 30
	}
	return l
}

// moonOf is the day of a year's full moon by the library's calendar, which counts days of March on into April.
func moonOf(y int) time.Time {
	return time.Date(y, time.March, reckoned(y).full, 0, 0, 0, 0, time.UTC)
}

// wanted is Easter by the chapter's words: day by day from the full moon on, up to a Sunday.
func wanted(y int) int {
	there := moonOf(y).AddDate(0, 0, 1)
	for there.Weekday() != time.Sunday {
		there = there.AddDate(0, 0, 1)
	}
	return number(there.Year(), int(there.Month()), there.Day())
}

// butchers is Easter by another reckoning, of 1876, that shares no step with the chapter's.
func butchers(y int) int {
	a, b, c := y%19, y/100, y%100
	d, e := b/4, b%4
	f := (b + 8) / 25
	g := (b - f + 1) / 3
	h := (19*a + b - d - g + 15) % 30
	i, k := c/4, c%4
	l := (32 + 2*e + 2*i - h - k) % 7
	m := (a + 11*h + 22*l) / 451
	from := h + l - 7*m + 114
	return number(y, from/31, from%31+1)
}

// held holds a year's Easter against a day.
func held(t *testing.T, y, m, d int) {
	t.Helper()
	if got, e := Day(y); got != number(y, m, d) || e != api.OK {
		t.Errorf("Day(%d) = %d, %d, not %d", y, got, e, number(y, m, d))
	}
}

// TestAllYears is of P11.1: each year from 1 to 9999 by the chapter's words.
func TestAllYears(t *testing.T) {
	for y := firstYear; y <= lastYear; y++ {
		if got, e := Day(y); got != wanted(y) || e != api.OK {
			t.Errorf("Day(%d) = %d, %d, not %d", y, got, e, wanted(y))
		}
	}
}

// TestByAnotherReckoning is of P11.1: each year by a reckoning of other steps.
func TestByAnotherReckoning(t *testing.T) {
	for y := firstYear; y <= lastYear; y++ {
		if got, e := Day(y); got != butchers(y) || e != api.OK {
			t.Errorf("Day(%d) = %d, %d, not %d", y, got, e, butchers(y))
		}
	}
}

// TestKnown is of P11.1: days that are known from tables.
func TestKnown(t *testing.T) {
	for _, x := range [][3]int{
		{1583, 4, 10}, {1598, 3, 22}, {1609, 4, 19}, {1666, 4, 25}, {1693, 3, 22}, {1700, 4, 11}, {1724, 4, 16}, {1734, 4, 25}, {1744, 4, 5}, {1761, 3, 22},
		{1800, 4, 13}, {1818, 3, 22}, {1886, 4, 25}, {1900, 4, 15}, {1913, 3, 23}, {1916, 4, 23}, {1943, 4, 25}, {1954, 4, 18}, {1961, 4, 2}, {1974, 4, 14}, {1981, 4, 19},
		{2000, 4, 23}, {2001, 4, 15}, {2002, 3, 31}, {2003, 4, 20}, {2004, 4, 11}, {2005, 3, 27}, {2006, 4, 16}, {2007, 4, 8}, {2008, 3, 23}, {2009, 4, 12},
		{2010, 4, 4}, {2011, 4, 24}, {2012, 4, 8}, {2013, 3, 31}, {2014, 4, 20}, {2015, 4, 5}, {2016, 3, 27}, {2017, 4, 16}, {2018, 4, 1}, {2019, 4, 21},
		{2020, 4, 12}, {2021, 4, 4}, {2022, 4, 17}, {2023, 4, 9}, {2024, 3, 31}, {2025, 4, 20}, {2026, 4, 5}, {2027, 3, 28}, {2028, 4, 16}, {2029, 4, 1}, {2030, 4, 21},
		{2038, 4, 25}, {2049, 4, 18}, {2076, 4, 19}, {2106, 4, 18}, {2285, 3, 22},
	} {
		held(t, x[0], x[1], x[2])
	}
}

// TestFirstAndLast is of P11.1: the years at the bounds have an Easter, and those beside them have none.
func TestFirstAndLast(t *testing.T) {
	// Of 1: G 2, C 1, X -12, Z -5, E 19, N 25, a Sunday, for March 4 is one. Of 9999: G 6, C 100, X 63, Z 27, E 20, N 24, a Wednesday.
	held(t, 1, 4, 1)
	held(t, 9999, 3, 28)
	for _, y := range []int{0, 10000} {
		if got, e := Day(y); got != 0 || e != api.ErrDay {
			t.Errorf("Day(%d) = %d, %d", y, got, e)
		}
	}
}

// TestNoYear is of P11.1: numbers of no year, near and far off; beside the code nothing is answered.
func TestNoYear(t *testing.T) {
	refused := func(y int) {
		t.Helper()
		if got, e := Day(y); got != 0 || e != api.ErrDay {
			t.Errorf("Day(%d) = %d, %d", y, got, e)
		}
	}
	for _, y := range noYears {
		refused(y)
	}
	for off := range 20000 {
		refused(-off)
		refused(lastYear + 1 + off)
		refused(math.MinInt + off)
		refused(math.MaxInt - off)
	}
	r := rand.New(rand.NewSource(11))
	for range 20000 {
		// As great as 2^63 or as small as 16 bits, of both signs.
		y := int(r.Uint64()) >> r.Intn(48)
		if y < firstYear || y > lastYear {
			refused(y)
		}
	}
	for bit := 14; bit < 64; bit++ {
		for _, y := range []int{1, 2024, 9999} {
			refused(y + 1<<bit)
			refused(y - 1<<bit)
		}
	}
}

// yearly are turns of the reckoning, each of which some years take, and years that take it.
var yearly = []struct {
	name  string
	takes func(y int, l letters) bool
	years []int
}{
	{"E is 25 and G above 11", func(_ int, l letters) bool { return l.age == 25 && l.g > 11 }, []int{1954, 2049, 2106}},
	{"E is 25 and G 11", func(_ int, l letters) bool { return l.age == 25 && l.g == 11 }, []int{618, 637}},
	{"E is 25 and G 12", func(_ int, l letters) bool { return l.age == 25 && l.g == 12 }, []int{3108, 3127}},
	{"E is 25 and G at most 11", func(_ int, l letters) bool { return l.age == 25 && l.g <= 11 }, []int{1715, 1734, 1886}},
	{"E is 24 and G above 11", func(_ int, l letters) bool { return l.age == 24 && l.g > 11 }, []int{1609, 1666}},
	{"E is 24 and G at most 11", func(_ int, l letters) bool { return l.age == 24 && l.g <= 11 }, []int{1943, 1981, 2000, 2038, 2076}},
	{"E is 26 by itself", func(_ int, l letters) bool { return l.age == 26 }, []int{1582, 1783}},
	{"E is 23", func(_ int, l letters) bool { return l.age == 23 }, []int{1818, 2285}},
	{"E is 0", func(_ int, l letters) bool { return l.age == 0 }, []int{2, 1930}},
	{"E is 29", func(_ int, l letters) bool { return l.age == 29 }, []int{116, 1976}},
	{"N is 21", func(_ int, l letters) bool { return l.n == 21 }, []int{1818, 2285}},
	// As an E of 24 is one more, N is never 20.
	{"N is 19, just below 21", func(_ int, l letters) bool { return l.n == 19 }, []int{1943, 1981, 2038}},
	{"N is 18", func(_ int, l letters) bool { return l.n == 18 }, []int{1954, 2049, 2106}},
	{"N is 22", func(_ int, l letters) bool { return l.n == 22 }, []int{1712, 1913, 1932}},
	{"X and Z are below 0", func(_ int, l letters) bool { return l.x < 0 && l.z < 0 }, []int{1, 99, 100, 1399}},
	{"X is below 0, and Z 0", func(_ int, l letters) bool { return l.x < 0 && l.z == 0 }, []int{1400, 1499}},
	{"X and Z are 0 or above", func(_ int, l letters) bool { return l.x >= 0 && l.z >= 0 }, []int{1500, 9999}},
	{"what is divided by 30 is below 0", func(_ int, l letters) bool { return 11*l.g+20+l.z-l.x < 0 }, []int{9006}},
	{"G is 1", func(_ int, l letters) bool { return l.g == 1 }, []int{19, 1900, 2014, 9994}},
	{"G is 19", func(_ int, l letters) bool { return l.g == 19 }, []int{18, 1899, 2013, 9993}},
	{"100 divides the year", func(y int, _ letters) bool { return y%100 == 0 }, []int{100, 400, 1900, 2000, 9900}},
	{"the year behind is the next century's", func(y int, _ letters) bool { return y%100 == 99 }, []int{99, 1899, 1999, 9899, 9999}},
	{"a leap year", func(y int, _ letters) bool { return civil.Leap(y) }, []int{4, 2024, 9996}},
	{"the full moon is a Sunday", func(y int, _ letters) bool { return moonOf(y).Weekday() == time.Sunday }, []int{1, 5, 1635, 1659}},
	{"the full moon is a Saturday", func(y int, _ letters) bool { return moonOf(y).Weekday() == time.Saturday }, []int{1818}},
	{"the full moon is a Monday", func(y int, _ letters) bool { return moonOf(y).Weekday() == time.Monday }, []int{2024}},
	{"the full moon is March 31", func(_ int, l letters) bool { return l.full == 31 }, []int{1942, 1999}},
	{"the full moon is April 1", func(_ int, l letters) bool { return l.full == 32 }, []int{14, 1798}},
	{"Easter is March 31", func(y int, _ letters) bool { return wanted(y) == number(y, 3, 31) }, []int{2002, 2013, 2024}},
	{"Easter is April 1", func(y int, _ letters) bool { return wanted(y) == number(y, 4, 1) }, []int{1, 2018, 2029}},
}

// TestTurns is of P11.1: years that take each turn of the reckoning, those that are named and all others.
func TestTurns(t *testing.T) {
	for _, turn := range yearly {
		for _, y := range turn.years {
			if !turn.takes(y, reckoned(y)) {
				t.Errorf("%s: not of %d", turn.name, y)
			}
		}
		taken := 0
		for y := firstYear; y <= lastYear; y++ {
			if !turn.takes(y, reckoned(y)) {
				continue
			}
			taken++
			if got, e := Day(y); got != wanted(y) || got != butchers(y) || e != api.OK {
				t.Errorf("%s: Day(%d) = %d, %d, not %d", turn.name, y, got, e, wanted(y))
			}
		}
		if taken == 0 {
			t.Errorf("%s: no year", turn.name)
		}
	}
}

// TestMoonOfSunday is of P11.1: Easter is seven days behind a full moon that is a Sunday itself, and from one to six behind any other.
func TestMoonOfSunday(t *testing.T) {
	behind := map[int]int{}
	for y := firstYear; y <= lastYear; y++ {
		moon := moonOf(y)
		got, e := Day(y)
		days := got - number(moon.Year(), int(moon.Month()), moon.Day())
		if e != api.OK || days < 1 || days > 7 || (days == 7) != (moon.Weekday() == time.Sunday) {
			t.Errorf("Day(%d) = %d, %d: %d days behind a full moon of day %d of the week", y, got, e, days, moon.Weekday())
		}
		behind[days]++
	}
	for days := 1; days <= 7; days++ {
		if behind[days] == 0 {
			t.Errorf("no Easter is %d days behind the full moon", days)
		}
	}
}

// TestSunday is of P11.2: a Sunday of its own year, from March 22 to April 25; each of these days is an Easter.
func TestSunday(t *testing.T) {
	often := map[[2]int]int{}
	for y := firstYear; y <= lastYear; y++ {
		n, e := Day(y)
		if e != api.OK || civil.Weekday(n) != 6 {
			t.Errorf("Day(%d) = %d, %d: day %d of the week", y, n, e, civil.Weekday(n))
		}
		if n < number(y, 3, 22) || n > number(y, 4, 25) {
			t.Errorf("Day(%d) = %d: not from March 22 to April 25", y, n)
		}
		c, e := civil.Of(n)
		if e != api.OK || c.Y != y {
			t.Errorf("Day(%d) = %d, a day of %d", y, n, c.Y)
		}
		often[[2]int{c.M, c.D}]++
	}
	for there := number(2024, 3, 22); there <= number(2024, 4, 25); there++ {
		c, _ := civil.Of(there)
		if often[[2]int{c.M, c.D}] == 0 {
			t.Errorf("no Easter is a %d-%d", c.M, c.D)
		}
	}
	if len(often) != 35 {
		t.Errorf("Easters of %d days", len(often))
	}
}

// TestBounds is of P11.2: years of the first day and of the last one.
func TestBounds(t *testing.T) {
	for _, y := range []int{1598, 1693, 1761, 1818, 2285, 2353, 2437, 2505} {
		held(t, y, 3, 22)
	}
	for _, y := range []int{1666, 1734, 1886, 1943, 2038, 2190, 2258, 2326} {
		held(t, y, 4, 25)
	}
}

// TestAnyOrder is of P11.1: what was asked ahead turns nothing, be it a year, the same one again, or none.
func TestAnyOrder(t *testing.T) {
	first := make([]int, lastYear+1)
	for y := firstYear; y <= lastYear; y++ {
		first[y], _ = Day(y)
	}
	again := func(y int) {
		t.Helper()
		if got, e := Day(y); got != first[y] || e != api.OK {
			t.Errorf("Day(%d) = %d, %d, and %d ahead", y, got, e, first[y])
		}
	}
	for y := lastYear; y >= firstYear; y-- {
		again(y)
		again(y)
	}
	r := rand.New(rand.NewSource(12))
	for range 50000 {
		again(firstYear + r.Intn(lastYear))
		if no := noYears[r.Intn(len(noYears))]; r.Intn(3) == 0 {
			if got, e := Day(no); got != 0 || e != api.ErrDay {
				t.Errorf("Day(%d) = %d, %d", no, got, e)
			}
		}
	}
}

// TestAtOnce is of P11.1: calls beside each other share nothing.
func TestAtOnce(t *testing.T) {
	var all sync.WaitGroup
	for part := range 8 {
		all.Go(func() {
			for y := firstYear + part; y <= lastYear; y += 3 {
				if got, e := Day(y); got != butchers(y) || e != api.OK {
					t.Errorf("Day(%d) = %d, %d, not %d", y, got, e, butchers(y))
				}
			}
		})
	}
	all.Wait()
}

// TestExamples are the chapter's, and that of the whole document, of P11.1.
func TestExamples(t *testing.T) {
	held(t, 2024, 3, 31)
	held(t, 2000, 4, 23)
	held(t, 1818, 3, 22)
	held(t, 2038, 4, 25)
	// By its number, told by hand: 738945 is February 29.
	if got, e := Day(2024); got != 738945+31 || e != api.OK {
		t.Errorf("Day(2024) = %d, %d", got, e)
	}
}
