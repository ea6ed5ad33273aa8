package rule

import (
	"math"
	"math/rand"
	"sync"
	"testing"
	"time"

	"demurrage/api"
	"demurrage/civil"
)

// earliest and latest are the bounds of years.
const (
	earliest = 1
	latest   = 9999
)

// day0 is the day ahead of the first one, as the library's calendar knows it, which goes by the Gregorian rule for all years too.
var day0 = time.Date(1, time.January, 0, 0, 0, 0, 0, time.UTC).Unix() / 86400

// date is a day of the library's calendar.
func date(y, m, d int) time.Time { return time.Date(y, time.Month(m), d, 0, 0, 0, 0, time.UTC) }

// num is the number of a day of the library's calendar.
func num(at time.Time) int { return int(at.Unix()/86400 - day0) }

// on is the number of a day by its year, month and day of the month.
func on(y, m, d int) int { return num(date(y, m, d)) }

// dayOf is the day of the week of the library's calendar, Monday first.
func dayOf(at time.Time) int { return (int(at.Weekday()) + 6) % 7 }

// far are numbers far off on both ways, the first and the last of all ints among them.
var far = []int{math.MinInt, math.MinInt + 1, math.MinInt32, -3652059, -10000, 10000, 3652060, math.MaxInt32, 1 << 32, 1<<32 + 1, 1<<32 + 2, 1<<32 + 3, 1<<32 + 2024,
	-1 << 32, -1<<32 + 1, 1 << 62, 1<<62 + 1, -1 << 62, math.MaxInt - 1, math.MaxInt}

// noDays are numbers of no day.
var noDays = append([]int{0, -1, -2, -7, -365, 3652061, 3652066, 3652425, 7304118}, outside(api.MinDay, api.MaxDay)...)

// noYears are numbers of no year of which there is a day.
var noYears = append([]int{0, -1, -4, -100, -400, -2024, 10001, 10004, 12024}, outside(earliest, latest)...)

// outside are those of the far numbers that are not from one number to another one.
func outside(from, to int) []int {
	var out []int
	for _, x := range far {
		if x < from || x > to {
			out = append(out, x)
		}
	}
	return out
}

// lengths are how long months are in a leap year.
var lengths = [12]int{31, 29, 31, 30, 31, 30, 31, 31, 30, 31, 30, 31}

// fixed, nth, last and fromEaster are rules of all years, without a shift.
func fixed(m, d int) api.Rule {
	return api.Rule{Kind: api.RFixed, Month: m, Day: d, From: earliest, To: latest}
}

func nth(m, weekday, k int) api.Rule {
	return api.Rule{Kind: api.RNth, Month: m, Day: weekday, K: k, From: earliest, To: latest}
}

func last(m, weekday int) api.Rule {
	return api.Rule{Kind: api.RLast, Month: m, Day: weekday, From: earliest, To: latest}
}

func fromEaster(off int) api.Rule {
	return api.Rule{Kind: api.REaster, Off: off, From: earliest, To: latest}
}

// with is a rule with a shift.
func with(r api.Rule, shift int) api.Rule {
	r.Shift = shift
	return r
}

// years is a rule of some years.
func years(r api.Rule, from, to int) api.Rule {
	r.From, r.To = from, to
	return r
}

// someRules are rules of each kind, of all years.
var someRules = []api.Rule{
	fixed(1, 1), fixed(12, 31), fixed(2, 28), fixed(2, 29), fixed(3, 1), fixed(5, 1), fixed(5, 31), fixed(7, 4), fixed(12, 25), fixed(12, 26),
	nth(1, 0, 1), nth(1, 0, 3), nth(11, 3, 4), nth(2, 5, 1), nth(2, 3, 5), nth(2, 6, 5), nth(12, 6, 5), nth(5, 5, 5), nth(1, 5, 1), nth(12, 5, 5),
	last(1, 0), last(5, 0), last(2, 5), last(2, 6), last(12, 5), last(12, 6), last(12, 4),
	fromEaster(0), fromEaster(-2), fromEaster(1), fromEaster(-1), fromEaster(39), fromEaster(49), fromEaster(50), fromEaster(60), fromEaster(-47), fromEaster(-90), fromEaster(-91),
	fromEaster(-99), fromEaster(-100), fromEaster(249), fromEaster(250),
}

// easterOf is Easter by a reckoning of 1876, that shares no step with chapter 11's.
func easterOf(y int) time.Time {
	a, b, c := y%19, y/100, y%100
	d, e := b/4, b%4
	f := (b + 8) / 25
	g := (b - f + 1) / 3
	h := (19*a + b - d - g + 15) % 30
	i, k := c/4, c%4
	l := (32 + 2*e + 2*i - h - k) % 7
	m := (a + 11*h + 22*l) / 451
	from := h + l - 7*m + 114
	return date(y, from/31, from%31+1)
}

// base is a rule's day of a year by the chapter's words: day by day through the month.
func base(r api.Rule, y int) (at time.Time, ok bool) {
	if y < r.From || y > r.To {
		return time.Time{}, false
	}
	if r.Kind == api.REaster {
		at = easterOf(y).AddDate(0, 0, r.Off)
		return at, at.Year() >= earliest && at.Year() <= latest
	}
	often := 0
	for there := date(y, r.Month, 1); int(there.Month()) == r.Month; there = there.AddDate(0, 0, 1) {
		if r.Kind == api.RFixed {
			if there.Day() == r.Day {
				return there, true
			}
			continue
		}
		if dayOf(there) != r.Day {
			continue
		}
		often++
		if r.Kind == api.RLast || often == r.K {
			at, ok = there, true
		}
	}
	return at, ok
}

// in is a rule's day of a year, shifted, by the chapter's words.
func in(r api.Rule, y int) (time.Time, bool) {
	at, ok := base(r, y)
	if !ok {
		return time.Time{}, false
	}
	weekend := at.Weekday() == time.Saturday || at.Weekday() == time.Sunday
	switch {
	case weekend && r.Shift == api.SNear && at.Weekday() == time.Saturday:
		at = at.AddDate(0, 0, -1)
	case weekend && r.Shift == api.SNear:
		at = at.AddDate(0, 0, 1)
	case weekend && r.Shift == api.SNext:
		for at.Weekday() != time.Monday {
			at = at.AddDate(0, 0, 1)
		}
	}
	return at, at.Year() >= earliest && at.Year() <= latest
}

// wanted is what a call should answer of a day: its number, or 0, and no.
func wanted(at time.Time, ok bool) (int, bool) {
	if !ok {
		return 0, false
	}
	return num(at), true
}

// held holds what Base and In tell of a year against the chapter's words.
func held(t *testing.T, r api.Rule, y int) {
	t.Helper()
	want, ok := wanted(base(r, y))
	if n, there := Base(r, y); n != want || there != ok {
		t.Errorf("Base(%+v, %d) = %d, %v, not %d, %v", r, y, n, there, want, ok)
	}
	want, ok = wanted(in(r, y))
	if n, there := In(r, y); n != want || there != ok {
		t.Errorf("In(%+v, %d) = %d, %v, not %d, %v", r, y, n, there, want, ok)
	}
}

// based and shifts hold a rule's day against one that is told by hand; none is for a year that has none.
func based(t *testing.T, r api.Rule, y, want int) {
	t.Helper()
	if n, there := Base(r, y); n != want || there != (want != none) {
		t.Errorf("Base(%+v, %d) = %d, %v, not %d", r, y, n, there, want)
	}
}

func shifts(t *testing.T, r api.Rule, y, want int) {
	t.Helper()
	if n, there := In(r, y); n != want || there != (want != none) {
		t.Errorf("In(%+v, %d) = %d, %v, not %d", r, y, n, there, want)
	}
}

const none = 0

// may holds May of a rule against what it should be.
func may(t *testing.T, r api.Rule, want bool) {
	t.Helper()
	if got := May(r); got != want {
		t.Errorf("May(%+v) = %v", r, got)
	}
}

// ofKinds are rules that may be, one of each kind, and with numbers that their kinds aren't told by at 0.
func ofKinds() []api.Rule { return []api.Rule{fixed(6, 15), nth(6, 2, 3), last(6, 2), fromEaster(10)} }

// TestMayKind is of P12.1: kinds from 0 to 3, and no others.
func TestMayKind(t *testing.T) {
	// All kinds are told by these numbers.
	r := api.Rule{Month: 6, Day: 2, K: 3, Off: 10, From: earliest, To: latest}
	for kind := -300; kind <= 300; kind++ {
		r.Kind = kind
		may(t, r, kind >= 0 && kind <= 3)
	}
	for _, kind := range far {
		r.Kind = kind
		may(t, r, false)
	}
}

// TestMayShift is of P12.1: shifts from 0 to 2, and no others, of each kind.
func TestMayShift(t *testing.T) {
	for _, r := range ofKinds() {
		for shift := -300; shift <= 300; shift++ {
			may(t, with(r, shift), shift >= 0 && shift <= 2)
		}
		for _, shift := range far {
			may(t, with(r, shift), false)
		}
	}
}

// TestMayYears is of P12.1: From is from 1 to To, and To at most 9999, of each kind.
func TestMayYears(t *testing.T) {
	near := append([]int{-9999, -2, -1, 0, 1, 2, 3, 1999, 2000, 2001, 2024, 9997, 9998, 9999, 10000, 10001, 19998}, far...)
	for _, r := range ofKinds() {
		for _, from := range near {
			for _, to := range near {
				may(t, years(r, from, to), 1 <= from && from <= to && to <= 9999)
			}
		}
		may(t, years(r, 1, 1), true)
		may(t, years(r, 0, 1), false)
		may(t, years(r, 0, 0), false)
		may(t, years(r, 9999, 9999), true)
		may(t, years(r, 9999, 10000), false)
		may(t, years(r, 10000, 10000), false)
		may(t, years(r, 2024, 2023), false)
		may(t, years(r, 1, 9999), true)
		may(t, years(r, 9999, 1), false)
	}
}

// TestMayFixed is of P12.1: months from 1 to 12, and days up to each month's length in a leap year.
func TestMayFixed(t *testing.T) {
	for m := -40; m <= 40; m++ {
		long := 0
		if m >= 1 && m <= 12 {
			long = lengths[m-1]
		}
		for d := -70; d <= 70; d++ {
			may(t, fixed(m, d), d >= 1 && d <= long)
		}
		for _, d := range far {
			may(t, fixed(m, d), false)
		}
	}
	for _, m := range far {
		for _, d := range append([]int{0, 1, 28, 31}, far...) {
			may(t, fixed(m, d), false)
		}
	}
	may(t, fixed(2, 29), true)
	may(t, fixed(2, 30), false)
	// The leap year isn't one that From and To have to have.
	may(t, years(fixed(2, 29), 2023, 2023), true)
	may(t, years(fixed(2, 29), 1900, 1900), true)
	may(t, years(fixed(2, 30), 2024, 2024), false)
}

// TestMayWeekdays is of P12.1: months, days of the week, and, of RNth alone, K.
func TestMayWeekdays(t *testing.T) {
	near := []int{-8, -7, -2, -1, 0, 1, 2, 3, 4, 5, 6, 7, 8, 11, 12, 13, 14, 29, 31}
	for _, m := range append(near, far...) {
		for _, d := range append(near, far...) {
			right := m >= 1 && m <= 12 && d >= 0 && d <= 6
			may(t, last(m, d), right)
			for _, k := range append(near, far...) {
				may(t, nth(m, d, k), right && k >= 1 && k <= 5)
			}
		}
	}
	for _, k := range []int{0, 6} {
		may(t, nth(6, 3, k), false)
	}
	for _, k := range []int{1, 5} {
		may(t, nth(2, 3, k), true)
	}
	// February has a fifth day of the week in leap years alone, but any year's rule may tell it.
	may(t, years(nth(2, 3, 5), 2023, 2023), true)
}

// TestMayEaster is of P12.1: days off Easter from -100 to 250.
func TestMayEaster(t *testing.T) {
	for off := -2000; off <= 2000; off++ {
		may(t, fromEaster(off), off >= -100 && off <= 250)
	}
	for _, off := range far {
		may(t, fromEaster(off), false)
	}
	// A rule may be, even if it tells no day at all.
	may(t, years(fromEaster(-100), 1, 1), true)
}

// beside are the rules that differ from one in numbers alone that its kind isn't told by.
func beside(r api.Rule, x int) []api.Rule {
	var all []api.Rule
	add := func(turn func(*api.Rule)) {
		other := r
		turn(&other)
		all = append(all, other)
	}
	if r.Kind == api.REaster {
		add(func(r *api.Rule) { r.Month = x })
		add(func(r *api.Rule) { r.Day = x })
		add(func(r *api.Rule) { r.Month, r.Day, r.K = x, x, x })
	} else {
		add(func(r *api.Rule) { r.Off = x })
	}
	if r.Kind != api.RNth {
		add(func(r *api.Rule) { r.K = x })
	}
	if r.Kind == api.RFixed || r.Kind == api.RLast {
		add(func(r *api.Rule) { r.K, r.Off = x, x })
	}
	return all
}

// TestAnyNumber is of P12.1 to P12.4: what a kind isn't told by turns nothing.
func TestAnyNumber(t *testing.T) {
	numbers := append([]int{-101, -100, -1, 0, 1, 5, 6, 7, 12, 13, 29, 31, 32, 250, 251}, far...)
	for _, one := range someRules {
		for _, shift := range []int{api.SNone, api.SNear, api.SNext} {
			one := with(one, shift)
			for _, x := range numbers {
				for _, r := range beside(one, x) {
					may(t, r, true)
					for _, y := range []int{0, 1, 1900, 2022, 2023, 2024, 9999, 10000} {
						held(t, r, y)
						n, there := In(one, y)
						if there && !Is(r, n) {
							t.Errorf("Is(%+v, %d) = false", r, n)
						}
					}
					if n := on(2024, 8, 14); Is(r, n) != Is(one, n) {
						t.Errorf("Is(%+v, %d) = %v", r, n, Is(r, n))
					}
				}
			}
		}
	}
	// And what may not be isn't made so.
	for _, x := range numbers {
		for _, one := range []api.Rule{fixed(2, 30), fixed(13, 1), nth(6, 2, 6), nth(6, 7, 1), last(6, 7), last(0, 1), fromEaster(-101), fromEaster(251)} {
			for _, r := range beside(one, x) {
				may(t, r, false)
			}
		}
	}
}

// spansOfYears are the years whose days of the week and lengths are each that there is, and those at the bounds.
var spansOfYears = [][2]int{{earliest, 29}, {1580, 2010}, {2010, 2110}, {9990, latest}}

// everyYear goes through some of the years.
func everyYear(do func(y int)) {
	for _, span := range spansOfYears {
		for y := span[0]; y <= span[1]; y++ {
			do(y)
		}
	}
}

// TestBaseFixed is of P12.2: each day of a month that a rule may tell, in each year; some have none of it.
func TestBaseFixed(t *testing.T) {
	everyYear(func(y int) {
		for m := 1; m <= 12; m++ {
			for d := 1; d <= lengths[m-1]; d++ {
				want := none
				if at := date(y, m, d); int(at.Month()) == m {
					want = num(at)
				}
				based(t, fixed(m, d), y, want)
			}
		}
	})
}

// TestBaseWeekdays is of P12.2: each day of the week in each month, day by day through it.
func TestBaseWeekdays(t *testing.T) {
	everyYear(func(y int) {
		for m := 1; m <= 12; m++ {
			var often [7]int
			var there [7][6]int
			for at := date(y, m, 1); int(at.Month()) == m; at = at.AddDate(0, 0, 1) {
				w := dayOf(at)
				often[w]++
				there[w][often[w]] = num(at)
			}
			for w := range 7 {
				for k := 1; k <= 5; k++ {
					// A fifth one that the month hasn't is 0, as it was.
					based(t, nth(m, w, k), y, there[w][k])
				}
				based(t, last(m, w), y, there[w][often[w]])
			}
		}
	})
}

// TestFifth is of P12.2: a fifth day of the week in months that have it, and in those that haven't.
func TestFifth(t *testing.T) {
	// February 2024 begins on a Thursday, and has a fifth one.
	for w := range 7 {
		want := none
		if w == 3 {
			want = on(2024, 2, 29)
		}
		based(t, nth(2, w, 5), 2024, want)
		shifts(t, nth(2, w, 5), 2024, want)
		based(t, nth(2, w, 5), 2023, none)
		shifts(t, with(nth(2, w, 5), api.SNext), 2023, none)
		based(t, nth(2, w, 5), 2100, none)
	}
	// April 2024 begins on a Monday, May on a Wednesday.
	for w, want := range []int{on(2024, 4, 29), on(2024, 4, 30), none, none, none, none, none} {
		based(t, nth(4, w, 5), 2024, want)
	}
	for w, want := range []int{none, none, on(2024, 5, 29), on(2024, 5, 30), on(2024, 5, 31), none, none} {
		based(t, nth(5, w, 5), 2024, want)
	}
	for w, want := range []int{on(2024, 5, 27), on(2024, 5, 28), on(2024, 5, 29), on(2024, 5, 30), on(2024, 5, 31), on(2024, 5, 25), on(2024, 5, 26)} {
		based(t, last(5, w), 2024, want)
	}
}

// TestLeapDay is of P12.2: February 29 of leap years and of others.
func TestLeapDay(t *testing.T) {
	for y := earliest; y <= latest; y++ {
		want := none
		if y%4 == 0 && y%100 != 0 || y%400 == 0 {
			want = on(y, 2, 29)
		}
		for shift := range 3 {
			based(t, with(fixed(2, 29), shift), y, want)
		}
		based(t, fixed(2, 28), y, on(y, 2, 28))
		if want == none {
			shifts(t, with(fixed(2, 29), y%3), y, none)
		}
	}
}

// TestBaseEaster is of P12.2: days off Easter, of each year and each number of days.
func TestBaseEaster(t *testing.T) {
	for y := earliest; y <= latest; y++ {
		there := num(easterOf(y))
		for off := -100 + y%7; off <= 250; off += 7 {
			want := there + off
			if want < 1 {
				want = none
			}
			based(t, fromEaster(off), y, want)
		}
		for _, off := range []int{-100, -99, -2, -1, 0, 1, 249, 250} {
			if y > 1 {
				based(t, fromEaster(off), y, there+off)
			}
		}
	}
	based(t, fromEaster(0), 2024, on(2024, 3, 31))
	based(t, fromEaster(-2), 2024, on(2024, 3, 29))
	based(t, fromEaster(1), 2024, on(2024, 4, 1))
	based(t, fromEaster(39), 2024, on(2024, 5, 9))
	based(t, fromEaster(60), 2024, on(2024, 5, 30))
	based(t, fromEaster(-47), 2024, on(2024, 2, 13))
}

// TestAheadOfFirst is of P12.2: Easter of the year 1 is day 91, April 1; days off it that lie ahead of the first day of all are none.
func TestAheadOfFirst(t *testing.T) {
	for off := -100; off <= 250; off++ {
		for _, shift := range []int{api.SNone, api.SNear, api.SNext} {
			r := with(fromEaster(off), shift)
			want := max(91+off, none)
			based(t, r, 1, want)
			held(t, r, 1)
			held(t, years(r, 1, 1), 1)
			if want == none {
				shifts(t, r, 1, none)
			}
		}
	}
	based(t, fromEaster(-90), 1, 1)
	based(t, fromEaster(-91), 1, none)
	based(t, fromEaster(-92), 1, none)
	based(t, fromEaster(-100), 1, none)
	shifts(t, fromEaster(-90), 1, 1)
	shifts(t, fromEaster(-91), 1, none)
}

// TestYearAhead is of P12.2 and P12.4: days off Easter that lie in the year ahead are the day of the year whose Easter it is.
func TestYearAhead(t *testing.T) {
	// Easter of 2024 is day 91 of its year, that of 2008 day 83, and that of 1818 day 81.
	for _, x := range []struct{ y, off, want int }{
		{2024, -100, on(2023, 12, 22)}, {2024, -91, on(2023, 12, 31)}, {2024, -90, on(2024, 1, 1)}, {2008, -100, on(2007, 12, 14)}, {2008, -83, on(2007, 12, 31)},
		{1818, -100, on(1817, 12, 12)}, {1818, -81, on(1817, 12, 31)}, {1818, -80, on(1818, 1, 1)}, {2, -100, num(easterOf(2)) - 100},
	} {
		r := fromEaster(x.off)
		based(t, r, x.y, x.want)
		shifts(t, r, x.y, x.want)
		// From and To are of the year, not of its day.
		based(t, years(r, x.y, x.y), x.y, x.want)
		based(t, years(r, x.y, x.y), x.y-1, none)
		based(t, years(r, x.y-1, x.y-1), x.y, none)
		is(t, r, x.want, true)
		is(t, years(r, x.y, x.y), x.want, true)
		is(t, years(r, x.y, x.y), x.want-1, false)
		is(t, years(r, x.y, x.y), x.want+1, false)
	}
	// The latest Easter, 250 days on, is a year's last day.
	based(t, fromEaster(250), 2038, on(2038, 12, 31))
	based(t, fromEaster(250), 1943, on(1943, 12, 31))
	based(t, fromEaster(250), latest, on(latest, 12, 3))
}

// TestFromAndTo is of P12.2 and P12.3: years at the bounds of a rule and just outside.
func TestFromAndTo(t *testing.T) {
	for _, one := range ofKinds() {
		for _, span := range [][2]int{{1, 1}, {1, 2}, {2, 2}, {1, 9999}, {2000, 2000}, {1999, 2024}, {2024, 2024}, {9998, 9998}, {9998, 9999}, {9999, 9999}} {
			for shift := range 3 {
				r := years(with(one, shift), span[0], span[1])
				for y := span[0] - 3; y <= span[0]+3; y++ {
					held(t, r, y)
				}
				for y := span[1] - 3; y <= span[1]+3; y++ {
					held(t, r, y)
				}
				for _, y := range []int{span[0] - 1, span[1] + 1} {
					based(t, r, y, none)
					shifts(t, r, y, none)
				}
				for _, y := range span {
					if n, there := Base(r, y); n == 0 || !there {
						t.Errorf("Base(%+v, %d) = %d, %v", r, y, n, there)
					}
				}
			}
		}
	}
}

// TestNoYear is of P12.2 and P12.3: years far off have no day, of any rule.
func TestNoYear(t *testing.T) {
	r := rand.New(rand.NewSource(12))
	for _, one := range someRules {
		for shift := range 3 {
			one := with(one, shift)
			for _, y := range noYears {
				based(t, one, y, none)
				shifts(t, one, y, none)
			}
			for range 200 {
				// As great as 2^63 or as small as 16 bits, of both signs.
				if y := int(r.Uint64()) >> r.Intn(48); y < earliest || y > latest {
					based(t, one, y, none)
					shifts(t, one, y, none)
				}
			}
		}
	}
}

// TestShifts is of P12.3: each day of some years, by each shift, by the library's calendar.
func TestShifts(t *testing.T) {
	for _, y := range []int{1, 2, 1900, 2000, 2017, 2018, 2019, 2020, 2021, 2022, 2023, 2024, 2025, 2026, 2027, 2028, 9998, 9999} {
		for m := 1; m <= 12; m++ {
			for d := 1; d <= lengths[m-1]; d++ {
				for shift := range 3 {
					held(t, with(fixed(m, d), shift), y)
				}
			}
		}
	}
}

// TestShiftsOfWeekdays is of P12.3: rules that tell a day of the week, of each of these.
func TestShiftsOfWeekdays(t *testing.T) {
	moves := [3][7]int{api.SNear: {5: -1, 6: 1}, api.SNext: {5: 2, 6: 1}}
	everyYear(func(y int) {
		for w := range 7 {
			for shift, by := range moves {
				m := 1 + (y+w+shift)%12
				for k := 1; k <= 5; k++ {
					if n, there := Base(nth(m, w, k), y); there {
						shifts(t, with(nth(m, w, k), shift), y, n+by[w])
					} else {
						shifts(t, with(nth(m, w, k), shift), y, none)
					}
				}
				n, _ := Base(last(m, w), y)
				shifts(t, with(last(m, w), shift), y, n+by[w])
			}
		}
		for shift, by := range moves {
			n, _ := Base(fromEaster(0), y)
			shifts(t, with(fromEaster(0), shift), y, n+by[6])
			shifts(t, with(fromEaster(-1), shift), y, n-1+by[5])
			shifts(t, with(fromEaster(-2), shift), y, n-2)
			shifts(t, with(fromEaster(1), shift), y, n+1)
		}
	})
}

// TestShiftedKnown is of P12.3: days of a weekend that a shift brings out of their month, or their year.
func TestShiftedKnown(t *testing.T) {
	for _, x := range []struct{ y, m, d, plain, near, next int }{
		{2021, 5, 1, on(2021, 5, 1), on(2021, 4, 30), on(2021, 5, 3)},
		{2022, 5, 1, on(2022, 5, 1), on(2022, 5, 2), on(2022, 5, 2)},
		{2020, 5, 31, on(2020, 5, 31), on(2020, 6, 1), on(2020, 6, 1)},
		{2025, 5, 31, on(2025, 5, 31), on(2025, 5, 30), on(2025, 6, 2)},
		{2020, 2, 29, on(2020, 2, 29), on(2020, 2, 28), on(2020, 3, 2)},
		{2032, 2, 29, on(2032, 2, 29), on(2032, 3, 1), on(2032, 3, 1)},
		{2022, 1, 1, on(2022, 1, 1), on(2021, 12, 31), on(2022, 1, 3)},
		{2023, 1, 1, on(2023, 1, 1), on(2023, 1, 2), on(2023, 1, 2)},
		{2024, 1, 1, on(2024, 1, 1), on(2024, 1, 1), on(2024, 1, 1)},
		{2022, 12, 31, on(2022, 12, 31), on(2022, 12, 30), on(2023, 1, 2)},
		{2023, 12, 31, on(2023, 12, 31), on(2024, 1, 1), on(2024, 1, 1)},
		{2022, 12, 30, on(2022, 12, 30), on(2022, 12, 30), on(2022, 12, 30)},
		{2021, 12, 31, on(2021, 12, 31), on(2021, 12, 31), on(2021, 12, 31)},
		{1, 1, 1, 1, 1, 1}, {1, 1, 5, 5, 5, 5}, {1, 1, 6, 6, 5, 8}, {1, 1, 7, 7, 8, 8},
		{9999, 12, 31, 3652059, 3652059, 3652059}, {9999, 12, 26, 3652054, 3652055, 3652055}, {9999, 12, 25, 3652053, 3652052, 3652055},
	} {
		r := fixed(x.m, x.d)
		shifts(t, r, x.y, x.plain)
		shifts(t, with(r, api.SNear), x.y, x.near)
		shifts(t, with(r, api.SNext), x.y, x.next)
		for shift := range 3 {
			// No shift turns Base.
			based(t, with(r, shift), x.y, x.plain)
		}
	}
}

// is holds Is against what it should be.
func is(t *testing.T, r api.Rule, n int, want bool) {
	t.Helper()
	if got := Is(r, n); got != want {
		t.Errorf("Is(%+v, %d) = %v", r, n, got)
	}
}

// daysOf are all days of a rule by the chapter's words.
func daysOf(r api.Rule) map[int]bool {
	days := map[int]bool{}
	for y := r.From; y <= r.To; y++ {
		if n, ok := wanted(in(r, y)); ok {
			days[n] = true
		}
	}
	return days
}

// TestIs is of P12.4: each day of years at the bounds and between, of each rule and each shift.
func TestIs(t *testing.T) {
	spans := [][2]int{{-30, 1200}, {on(2003, 11, 1), on(2030, 3, 1)}, {3652059 - 1200, 3652059 + 30}}
	for i, one := range someRules {
		for shift := range 3 {
			r := with(one, shift)
			for _, bounds := range [][2]int{{1, 3}, {2005, 2028}, {2010 + i%7, 2010 + i%7}, {9996, 9999}} {
				r := years(r, bounds[0], bounds[1])
				days := daysOf(r)
				for _, span := range spans {
					for n := span[0]; n <= span[1]; n++ {
						is(t, r, n, days[n])
					}
				}
			}
		}
	}
}

// TestIsOfAll is of P12.4: every day, of some rules of all years.
func TestIsOfAll(t *testing.T) {
	var all sync.WaitGroup
	for _, r := range []api.Rule{
		with(fixed(1, 1), api.SNear), with(fixed(12, 31), api.SNext), fixed(2, 29), with(nth(2, 5, 5), api.SNear), last(12, 6), fromEaster(-90), with(fromEaster(-100), api.SNear), with(fromEaster(250), api.SNext),
	} {
		all.Go(func() {
			days := daysOf(r)
			for n := api.MinDay - 400; n <= api.MaxDay+400; n++ {
				if got := Is(r, n); got != days[n] {
					t.Errorf("Is(%+v, %d) = %v", r, n, got)
				}
			}
		})
	}
	all.Wait()
}

// TestIsKnown is of P12.4: days that a shift has brought into another year, and days beside them.
func TestIsKnown(t *testing.T) {
	first, end := fixed(1, 1), fixed(12, 31)
	for _, x := range []struct {
		r    api.Rule
		n    int
		want bool
	}{
		{with(first, api.SNear), on(2021, 12, 31), true}, {with(first, api.SNear), on(2022, 1, 1), false}, {with(first, api.SNear), on(2022, 1, 3), false},
		{with(first, api.SNear), on(2021, 1, 1), true}, {with(first, api.SNear), on(2023, 1, 2), true}, {with(first, api.SNear), on(2023, 1, 1), false},
		{with(first, api.SNext), on(2021, 12, 31), false}, {with(first, api.SNext), on(2022, 1, 3), true}, {with(first, api.SNext), on(2022, 1, 1), false},
		{first, on(2022, 1, 1), true}, {first, on(2021, 12, 31), false}, {first, on(2022, 1, 2), false},
		{with(end, api.SNext), on(2023, 1, 2), true}, {with(end, api.SNext), on(2022, 12, 31), false}, {with(end, api.SNext), on(2022, 12, 30), false},
		{with(end, api.SNear), on(2022, 12, 30), true}, {with(end, api.SNear), on(2023, 1, 2), false}, {with(end, api.SNear), on(2024, 1, 1), true},
		{with(end, api.SNext), on(2024, 1, 1), true}, {with(end, api.SNext), on(2024, 12, 31), true},
		// The year is held against From and To, not the day that it is shifted to.
		{years(with(first, api.SNear), 2022, 2022), on(2021, 12, 31), true}, {years(with(first, api.SNear), 2021, 2021), on(2021, 12, 31), false},
		{years(with(end, api.SNext), 2022, 2022), on(2023, 1, 2), true}, {years(with(end, api.SNext), 2023, 2023), on(2023, 1, 2), false},
		{years(with(end, api.SNear), 2023, 2023), on(2024, 1, 1), true}, {years(with(end, api.SNear), 2024, 2024), on(2024, 1, 1), false},
		{years(first, 2024, 2024), on(2024, 1, 1), true}, {years(first, 2024, 2024), on(2023, 1, 1), false}, {years(first, 2024, 2024), on(2025, 1, 1), false},
		{fixed(2, 29), on(2024, 2, 29), true}, {fixed(2, 29), on(2023, 2, 28), false}, {fixed(2, 29), on(2023, 3, 1), false},
		{first, 1, true}, {end, 3652059, true}, {first, 2, false}, {end, 3652058, false}, {first, 3652059, false},
		{fromEaster(-90), 1, true}, {fromEaster(-91), 1, false},
	} {
		is(t, x.r, x.n, x.want)
	}
}

// TestIsOfNoDay is of P12.4: numbers of no day are none of a rule, also not of one that has no day in some years.
func TestIsOfNoDay(t *testing.T) {
	r := rand.New(rand.NewSource(13))
	rules := append([]api.Rule{years(fixed(2, 29), 2023, 2023), years(fixed(2, 29), 1, 3), years(nth(2, 0, 5), 2001, 2003), years(fromEaster(-100), 1, 1), years(fromEaster(-91), 1, 1)}, someRules...)
	for _, one := range rules {
		for shift := range 3 {
			one := with(one, shift)
			for _, n := range noDays {
				is(t, one, n, false)
			}
			for n := -400; n < 1; n++ {
				is(t, one, n, false)
				is(t, one, 3652060-n, false)
			}
			for range 200 {
				if n := int(r.Uint64()) >> r.Intn(40); n < api.MinDay || n > api.MaxDay {
					is(t, one, n, false)
				}
			}
		}
	}
}

// TestOneDayAYear is of P12.5: one day a year at most, in that year, the next one or the one ahead; each of another year is later.
func TestOneDayAYear(t *testing.T) {
	for _, one := range someRules {
		for shift := range 3 {
			r := with(one, shift)
			ahead := 0
			for y := earliest; y <= latest; y++ {
				n, there := In(r, y)
				if !there {
					continue
				}
				c, e := civil.Of(n)
				if e != api.OK || n <= ahead || c.Y < y-1 || c.Y > y+1 {
					t.Errorf("In(%+v, %d) = %d, a day of %d, and %d ahead", r, y, n, c.Y, ahead)
				}
				if b, _ := Base(r, y); n-b < -1 || n-b > 2 {
					t.Errorf("In(%+v, %d) = %d, of %d", r, y, n, b)
				}
				ahead = n
			}
		}
	}
	// In this year it is twice: of itself, and of the next one.
	often := 0
	for n := on(2021, 1, 1); n <= on(2021, 12, 31); n++ {
		if Is(with(fixed(1, 1), api.SNear), n) {
			often++
		}
	}
	if often != 2 {
		t.Errorf("January 1, SNear: %d days in 2021", often)
	}
}

// TestNoWeekend is of P12.5: with SNear and SNext it is neither a Saturday nor a Sunday, and a day of neither stays.
func TestNoWeekend(t *testing.T) {
	for _, one := range someRules {
		for y := earliest; y <= latest; y++ {
			plain, was := In(one, y)
			if b, there := Base(one, y); b != plain || there != was {
				t.Errorf("In(%+v, %d) = %d, %v, of %d, %v", one, y, plain, was, b, there)
			}
			for _, shift := range []int{api.SNear, api.SNext} {
				r := with(one, shift)
				n, there := In(r, y)
				if there != was || there && civil.Weekday(n) > 4 {
					t.Errorf("In(%+v, %d) = %d, %v: day %d of the week", r, y, n, there, civil.Weekday(n))
				}
				if was && civil.Weekday(plain) <= 4 && n != plain {
					t.Errorf("In(%+v, %d) = %d, not %d", r, y, n, plain)
				}
				if was && civil.Weekday(plain) > 4 && shift == api.SNext && civil.Weekday(n) != 0 {
					t.Errorf("In(%+v, %d) = %d: no Monday", r, y, n)
				}
			}
		}
	}
}

// anyRule is a rule that may be, by chance.
func anyRule(r *rand.Rand) api.Rule {
	number := func() int { return int(r.Uint64()) >> r.Intn(64) }
	x := api.Rule{Kind: r.Intn(4), Month: number(), Day: number(), K: number(), Off: number(), Shift: r.Intn(3), From: 1 + r.Intn(9999)}
	x.To = x.From + r.Intn(10000-x.From)
	switch x.Kind {
	case api.RFixed:
		x.Month = 1 + r.Intn(12)
		x.Day = 1 + r.Intn(lengths[x.Month-1])
	case api.RNth:
		x.Month, x.Day, x.K = 1+r.Intn(12), r.Intn(7), 1+r.Intn(5)
	case api.RLast:
		x.Month, x.Day = 1+r.Intn(12), r.Intn(7)
	case api.REaster:
		x.Off = r.Intn(351) - 100
	}
	return x
}

// TestByChance is of P12.1 to P12.4: rules made by chance.
func TestByChance(t *testing.T) {
	r := rand.New(rand.NewSource(14))
	for range 20000 {
		x := anyRule(r)
		may(t, x, true)
		for _, y := range []int{x.From - 1, x.From, x.From + r.Intn(x.To-x.From+1), x.To, x.To + 1} {
			held(t, x, y)
			n, ok := wanted(in(x, y))
			if !ok {
				continue
			}
			is(t, x, n, true)
			// A rule's days are far from each other.
			is(t, x, n-1-r.Intn(3), false)
			is(t, x, n+1+r.Intn(3), false)
		}
	}
}

// call is a call and what it answered ahead.
type call struct {
	r     api.Rule
	y, n  int
	there bool
	is    bool
}

// answered makes a call.
func answered(r api.Rule, y, n int) call {
	c := call{r: r, y: y}
	c.n, c.there = In(r, y)
	c.is = Is(r, n)
	return c
}

// someCalls are calls by chance.
func someCalls(seed int64, many int) []call {
	r := rand.New(rand.NewSource(seed))
	all := make([]call, many)
	for i := range all {
		x := anyRule(r)
		all[i] = answered(x, x.From+r.Intn(x.To-x.From+1), 1+r.Intn(3652059))
	}
	return all
}

// TestAnyOrder is of P12.1 to P12.5: what was asked ahead turns nothing, be it of the same rule, of another one, or of none that may be.
func TestAnyOrder(t *testing.T) {
	first := someCalls(15, 5000)
	again := func(c call) {
		t.Helper()
		n, there := In(c.r, c.y)
		if n != c.n || there != c.there {
			t.Errorf("In(%+v, %d) = %d, %v, and %d, %v ahead", c.r, c.y, n, there, c.n, c.there)
		}
		if !May(c.r) {
			t.Errorf("May(%+v) = false", c.r)
		}
		if there && !Is(c.r, n) {
			t.Errorf("Is(%+v, %d) = false", c.r, n)
		}
		held(t, c.r, c.y)
	}
	for i := range first {
		again(first[len(first)-1-i])
		again(first[len(first)-1-i])
	}
	r := rand.New(rand.NewSource(16))
	for range 10000 {
		may(t, with(first[r.Intn(len(first))].r, 3+r.Intn(9)), false)
		again(first[r.Intn(len(first))])
	}
	for i, c := range someCalls(15, 5000) {
		if c != first[i] {
			t.Errorf("%+v, and %+v ahead", c, first[i])
		}
	}
}

// TestAtOnce is of P12.1 to P12.5: calls beside each other share nothing.
func TestAtOnce(t *testing.T) {
	first := someCalls(17, 2000)
	var all sync.WaitGroup
	for range 8 {
		all.Go(func() {
			for i, c := range someCalls(17, 2000) {
				if c != first[i] {
					t.Errorf("%+v, and %+v ahead", c, first[i])
				}
			}
		})
	}
	all.Wait()
}

// TestExamples are the chapter's, of P12.2 and P12.3.
func TestExamples(t *testing.T) {
	thanks := api.Rule{Kind: api.RNth, Month: 11, Day: 3, K: 4, From: 1, To: 9999}
	based(t, thanks, 2024, on(2024, 11, 28))
	shifts(t, thanks, 2024, on(2024, 11, 28))
	is(t, thanks, on(2024, 11, 28), true)
	is(t, thanks, on(2024, 11, 21), false)
	first := api.Rule{Kind: api.RFixed, Month: 1, Day: 1, Shift: api.SNear, From: 1, To: 9999}
	based(t, first, 2022, on(2022, 1, 1))
	shifts(t, first, 2022, on(2021, 12, 31))
	is(t, first, on(2021, 12, 31), true)
	// By its number, told by hand: 738945 is 2024-02-29, and 273 days are from there to November 28.
	based(t, thanks, 2024, 738945+273)
}
