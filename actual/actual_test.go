package actual

import (
	"errors"
	"math"
	"math/big"
	"math/rand"
	"strings"
	"testing"
	"time"

	"demurrage/api"
	"demurrage/ratio"
)

// day0 is the day ahead of the first one, as the library's calendar knows it.
var day0 = time.Date(1, time.January, 0, 0, 0, 0, 0, time.UTC).Unix() / 86400

// number is the number of a day of the library's calendar.
func number(y, m, d int) int {
	return int(time.Date(y, time.Month(m), d, 0, 0, 0, 0, time.UTC).Unix()/86400 - day0)
}

// leap: has the library's calendar a February 29 of that year?
func leap(y int) bool { return time.Date(y, time.February, 29, 0, 0, 0, 0, time.UTC).Day() == 29 }

// inLeap is, at each day's number, how many of the days ahead of it are in leap years, counted day by day.
var inLeap = func() []int {
	ahead := make([]int, 2, api.MaxDay+2)
	for y := 1; y <= 9999; y++ {
		step := 0
		if leap(y) {
			step = 1
		}
		for range number(y+1, 1, 1) - number(y, 1, 1) {
			ahead = append(ahead, ahead[len(ahead)-1]+step)
		}
	}
	return ahead
}()

// noDays are numbers that are no day's.
var noDays = []int{0, -1, -2, -366, 3652060, 3652061, 7304118, -3652059, math.MinInt, math.MinInt + 1, math.MaxInt, math.MaxInt - 1, 1 << 32, 1<<32 + 738945, -1 << 32, 1 << 62, -1 << 62}

// calls are all three.
var calls = map[string]func(a, b int) (api.Ratio, api.Errno){"By360": By360, "By365": By365, "ByYears": ByYears}

// byBig is a fraction of any size.
func byBig(n, d int) *big.Rat { return big.NewRat(int64(n), int64(d)) }

// wanted are the parts of two days that are in order, by the words of the chapter, by numbers of any size.
func wanted(a, b int) map[string]*big.Rat {
	leapDays := inLeap[b] - inLeap[a]
	return map[string]*big.Rat{
		"By360":   byBig(b-a, 360),
		"By365":   byBig(b-a, 365),
		"ByYears": new(big.Rat).Add(byBig(leapDays, 366), byBig(b-a-leapDays, 365)),
	}
}

// lowest is a fraction of any size as what a call should answer: big ones are in lowest terms.
func lowest(x *big.Rat) api.Ratio {
	return api.Ratio{N: int(x.Num().Int64()), D: int(x.Denom().Int64())}
}

// held holds all three, of two days that are in order, against the words of the chapter.
func held(t *testing.T, a, b int) {
	t.Helper()
	want := wanted(a, b)
	for name, call := range calls {
		if got, e := call(a, b); got != lowest(want[name]) || e != api.OK {
			t.Fatalf("%s(%d, %d) = %v, %d, not %v", name, a, b, got, e, want[name])
		}
	}
}

// answered holds one call's answer against a fraction in lowest terms, written out.
func answered(t *testing.T, name string, a, b int, want api.Ratio) {
	t.Helper()
	if got, e := calls[name](a, b); got != want || e != api.OK {
		t.Errorf("%s(%d, %d) = %v, %d, not %v", name, a, b, got, e, want)
	}
}

// TestNoDay is of P8.1: numbers that are no day, at either place and at both, above and below the other one: ErrDay stands ahead of ErrOrder.
func TestNoDay(t *testing.T) {
	for name, call := range calls {
		for _, none := range noDays {
			for _, n := range append([]int{1, 2, 366, 738945, 3652058, 3652059}, noDays...) {
				if got, e := call(none, n); got != (api.Ratio{}) || e != api.ErrDay {
					t.Errorf("%s(%d, %d) = %v, %d", name, none, n, got, e)
				}
				if got, e := call(n, none); got != (api.Ratio{}) || e != api.ErrDay {
					t.Errorf("%s(%d, %d) = %v, %d", name, n, none, got, e)
				}
			}
		}
	}
}

// TestOrder is of P8.1: a above b, by one day and by far, within a year and from one to another.
func TestOrder(t *testing.T) {
	for name, call := range calls {
		for _, x := range [][2]int{
			{2, 1}, {3652059, 3652058}, {3652059, 1}, {3652059, 2}, {738946, 738945}, {738945, 738580}, {738945, 1}, {366, 365}, {366, 1},
			{number(2024, 3, 1), number(2024, 2, 29)}, {number(2024, 1, 2), number(2024, 1, 1)}, {number(2024, 1, 1), number(2023, 12, 31)},
			{number(2025, 1, 1), number(2024, 12, 31)}, {number(2025, 1, 1), number(2024, 1, 1)}, {number(2424, 1, 1), number(2024, 1, 1)},
		} {
			if got, e := call(x[0], x[1]); got != (api.Ratio{}) || e != api.ErrOrder {
				t.Errorf("%s(%d, %d) = %v, %d", name, x[0], x[1], got, e)
			}
		}
	}
}

// TestRefusal is of P8.1: why two days are refused wraps the error behind it, tells the place, and has a code.
func TestRefusal(t *testing.T) {
	for _, x := range []struct {
		a, b  int
		why   error
		place string
		code  api.Errno
	}{
		{0, 5, errDay, "first", api.ErrDay}, {0, 0, errDay, "first", api.ErrDay}, {5, 0, errDay, "second", api.ErrDay},
		{3652060, 5, errDay, "first", api.ErrDay}, {5, 3652060, errDay, "second", api.ErrDay}, {6, 5, errOrder, "both", api.ErrOrder},
	} {
		days, why := between(x.a, x.b)
		if days != (span{}) || why == nil || !errors.Is(why, x.why) || !strings.Contains(why.Error(), x.place) || !strings.Contains(why.Error(), x.why.Error()) || code(why) != x.code {
			t.Errorf("between(%d, %d) = %v, %v", x.a, x.b, days, why)
		}
	}
	if days, why := between(5, 6); why != nil || code(why) != api.OK || days.from != 5 || days.to != 6 {
		t.Error(days, why)
	}
}

// TestSameDay is of P8.2 and P8.3: it is 0, by 1, of days of all years, and so of each year's first day and last one.
func TestSameDay(t *testing.T) {
	for name := range calls {
		for n := api.MinDay; n <= api.MaxDay; n += 1 + n%700 {
			answered(t, name, n, n, api.Ratio{N: 0, D: 1})
		}
		for y := 1; y <= 9999; y++ {
			answered(t, name, number(y, 1, 1), number(y, 1, 1), api.Ratio{N: 0, D: 1})
			answered(t, name, number(y, 12, 31), number(y, 12, 31), api.Ratio{N: 0, D: 1})
		}
	}
}

// TestNextDay is of P8.2 and P8.3: one day, which is of the first one's year, at February's ends and at years' ends too.
func TestNextDay(t *testing.T) {
	for _, y := range []int{1, 3, 4, 5, 99, 100, 101, 399, 400, 401, 1899, 1900, 1901, 1999, 2000, 2001, 2023, 2024, 2025, 9996, 9998} {
		ofYear := api.Ratio{N: 1, D: 365}
		if leap(y) {
			ofYear.D = 366
		}
		for _, n := range []int{number(y, 1, 1), number(y, 2, 28), number(y, 3, 1) - 1, number(y, 3, 1), number(y, 6, 15), number(y, 12, 30), number(y, 12, 31)} {
			answered(t, "By360", n, n+1, api.Ratio{N: 1, D: 360})
			answered(t, "By365", n, n+1, api.Ratio{N: 1, D: 365})
			answered(t, "ByYears", n, n+1, ofYear)
		}
	}
	answered(t, "ByYears", 3652058, 3652059, api.Ratio{N: 1, D: 365})
}

// TestByLength is of P8.2: so many days by 360 and by 365, in lowest terms, wherever they lie.
func TestByLength(t *testing.T) {
	for _, x := range []struct {
		days         int
		by360, by365 api.Ratio
	}{
		{0, api.Ratio{N: 0, D: 1}, api.Ratio{N: 0, D: 1}}, {1, api.Ratio{N: 1, D: 360}, api.Ratio{N: 1, D: 365}}, {2, api.Ratio{N: 1, D: 180}, api.Ratio{N: 2, D: 365}},
		{5, api.Ratio{N: 1, D: 72}, api.Ratio{N: 1, D: 73}}, {73, api.Ratio{N: 73, D: 360}, api.Ratio{N: 1, D: 5}}, {90, api.Ratio{N: 1, D: 4}, api.Ratio{N: 18, D: 73}},
		{180, api.Ratio{N: 1, D: 2}, api.Ratio{N: 36, D: 73}}, {359, api.Ratio{N: 359, D: 360}, api.Ratio{N: 359, D: 365}}, {360, api.Ratio{N: 1, D: 1}, api.Ratio{N: 72, D: 73}},
		{361, api.Ratio{N: 361, D: 360}, api.Ratio{N: 361, D: 365}}, {364, api.Ratio{N: 91, D: 90}, api.Ratio{N: 364, D: 365}}, {365, api.Ratio{N: 73, D: 72}, api.Ratio{N: 1, D: 1}},
		{366, api.Ratio{N: 61, D: 60}, api.Ratio{N: 366, D: 365}}, {720, api.Ratio{N: 2, D: 1}, api.Ratio{N: 144, D: 73}}, {730, api.Ratio{N: 73, D: 36}, api.Ratio{N: 2, D: 1}},
		{732, api.Ratio{N: 61, D: 30}, api.Ratio{N: 732, D: 365}}, {26280, api.Ratio{N: 73, D: 1}, api.Ratio{N: 72, D: 1}}, {146097, api.Ratio{N: 16233, D: 40}, api.Ratio{N: 146097, D: 365}},
		{3652058, api.Ratio{N: 1826029, D: 180}, api.Ratio{N: 3652058, D: 365}},
	} {
		for _, a := range []int{1, 2, number(1900, 2, 28), number(2000, 2, 29), number(2023, 12, 31), number(2024, 1, 1), api.MaxDay - x.days} {
			if a+x.days <= api.MaxDay {
				answered(t, "By360", a, a+x.days, x.by360)
				answered(t, "By365", a, a+x.days, x.by365)
			}
		}
	}
}

// TestByYears is of P8.3: days of one year, of two one behind the other, and of years far apart.
func TestByYears(t *testing.T) {
	for _, x := range []struct{ a, b, inLeap, inOthers int }{
		// One year.
		{number(2023, 1, 1), number(2023, 12, 31), 0, 364}, {number(2024, 1, 1), number(2024, 12, 31), 365, 0}, {number(2024, 1, 15), number(2024, 7, 15), 182, 0},
		{number(2023, 1, 15), number(2023, 7, 15), 0, 181}, {number(2024, 2, 28), number(2024, 3, 1), 2, 0}, {number(2023, 2, 28), number(2023, 3, 1), 0, 1},
		// Two, where the leap year is the first one, the second one, or neither.
		{number(2024, 12, 31), number(2025, 1, 2), 1, 1}, {number(2023, 12, 31), number(2024, 1, 2), 1, 1}, {number(2022, 12, 31), number(2023, 1, 2), 0, 2},
		{number(2024, 12, 31), number(2025, 1, 1), 1, 0}, {number(2023, 12, 31), number(2024, 1, 1), 0, 1}, {number(2024, 1, 1), number(2025, 12, 31), 366, 364},
		{number(2023, 1, 1), number(2024, 12, 31), 365, 365}, {number(2024, 6, 30), number(2025, 6, 30), 185, 180}, {number(2023, 6, 30), number(2024, 6, 30), 181, 185},
		// A leap year in between, and at both.
		{number(2023, 12, 31), number(2025, 1, 2), 366, 2}, {number(2024, 12, 31), number(2028, 1, 2), 2, 3 * 365}, {number(2020, 3, 1), number(2024, 3, 1), 306 + 60, 3 * 365},
		{number(2023, 7, 1), number(2029, 7, 1), 2 * 366, 184 + 365*3 + 181},
		// Centuries: 1900 is no leap year, 2000 is one.
		{number(1896, 12, 31), number(1904, 1, 2), 2, 7 * 365}, {number(1996, 12, 31), number(2004, 1, 2), 2 + 366, 6 * 365}, {number(1900, 1, 1), number(1900, 12, 31), 0, 364},
		{number(2000, 1, 1), number(2000, 12, 31), 365, 0}, {number(100, 1, 1), number(100, 12, 31), 0, 364}, {number(400, 1, 1), number(400, 12, 31), 365, 0},
		{number(4, 1, 1), number(4, 12, 31), 365, 0}, {number(1900, 2, 28), number(1900, 3, 1), 0, 1}, {number(2000, 2, 28), number(2000, 3, 1), 2, 0},
		// Up to a year's first day none of that year is counted.
		{number(2023, 3, 1), number(2024, 1, 1), 0, 306}, {number(2024, 3, 1), number(2025, 1, 1), 306, 0}, {1, number(5, 1, 1), 366, 3 * 365},
		// Whole runs of years, and all of them.
		{1, number(101, 1, 1), 24 * 366, 76 * 365}, {1, number(401, 1, 1), 97 * 366, 303 * 365}, {1, 3652059, 2424 * 366, 7575*365 - 1},
	} {
		want := new(big.Rat).Add(byBig(x.inLeap, 366), byBig(x.inOthers, 365))
		answered(t, "ByYears", x.a, x.b, lowest(want))
		days, _ := between(x.a, x.b)
		if inLeap, inOthers := days.byYears(); inLeap != x.inLeap || inOthers != x.inOthers {
			t.Errorf("from %d to %d: %d and %d, not %d and %d", x.a, x.b, inLeap, inOthers, x.inLeap, x.inOthers)
		}
	}
}

// TestWholeYears is of P8.4: from a year's first day to the next one's it is 1 of each year, and k of k years, runs of 4, 100 and 400 among them.
func TestWholeYears(t *testing.T) {
	for y := 1; y < 9999; y++ {
		answered(t, "ByYears", number(y, 1, 1), number(y+1, 1, 1), api.Ratio{N: 1, D: 1})
	}
	for _, k := range []int{2, 3, 4, 5, 8, 99, 100, 101, 400, 401, 2000, 9998} {
		for y := 1; y+k <= 9999; y += 1 + y%37 {
			answered(t, "ByYears", number(y, 1, 1), number(y+k, 1, 1), api.Ratio{N: k, D: 1})
		}
	}
}

// TestOffOne is of P8.4: from another day of a year to the next year's the same, ByYears is 1 only where neither is a leap year.
func TestOffOne(t *testing.T) {
	for _, x := range []struct {
		y    int
		want api.Ratio
	}{{2021, api.Ratio{N: 1, D: 1}}, {2022, api.Ratio{N: 1, D: 1}}, {2023, lowest(new(big.Rat).Add(byBig(1, 366), byBig(364, 365)))}, {2024, lowest(new(big.Rat).Add(byBig(365, 366), byBig(1, 365)))}} {
		answered(t, "ByYears", number(x.y, 1, 2), number(x.y+1, 1, 2), x.want)
	}
}

// TestEachPair is of P8.2 and P8.3: each two days of spans that hold years' ends and Februaries of both lengths, and both ends of all days.
func TestEachPair(t *testing.T) {
	for _, x := range [][2]int{{number(2023, 12, 1), number(2025, 2, 10)}, {number(1899, 12, 20), number(1900, 3, 10)}, {number(1999, 12, 20), number(2000, 3, 10)}, {number(3, 12, 20), number(4, 3, 10)}, {1, 100}, {3652059 - 100, 3652059}} {
		for a := x[0]; a <= x[1]; a++ {
			for b := a; b <= x[1]; b++ {
				held(t, a, b)
			}
		}
	}
}

// TestEdgesOfYears is of P8.2 and P8.3: days around the turns of years of each kind, near and far, each against the others.
func TestEdgesOfYears(t *testing.T) {
	edges := []int{1, 2, 3652058, 3652059}
	for _, y := range []int{4, 5, 100, 101, 400, 401, 1900, 1901, 2000, 2001, 2023, 2024, 2025, 9996, 9999} {
		first, march := number(y, 1, 1), number(y, 3, 1)
		edges = append(edges, first-1, first, first+1, march-1, march)
	}
	for _, a := range edges {
		for _, b := range edges {
			if a <= b {
				held(t, a, b)
			}
		}
	}
}

// TestByChance is of P8.2 and P8.3: days of all years, and such that are whole multiples of years apart.
func TestByChance(t *testing.T) {
	r := rand.New(rand.NewSource(8))
	for range 3000 {
		a, b := 1+r.Intn(api.MaxDay), 1+r.Intn(api.MaxDay)
		held(t, min(a, b), max(a, b))
		for _, length := range []int{360, 365, 366, 1461} {
			held(t, a, a+(api.MaxDay-a)/length*length)
			held(t, a, min(a+r.Intn(12)*length, api.MaxDay))
		}
	}
}

// TestSums are of P8.4: parts from a to b, and from b to c, make the one from a to c, by all three.
func TestSums(t *testing.T) {
	r := rand.New(rand.NewSource(84))
	for range 3000 {
		a := 1 + r.Intn(api.MaxDay)
		b := a + r.Intn(api.MaxDay-a+1)
		c := b + r.Intn(api.MaxDay-b+1)
		if r.Intn(2) == 0 {
			b = min(a+r.Intn(1000), api.MaxDay)
			c = min(b+r.Intn(1000), api.MaxDay)
		}
		for _, x := range [][3]int{{a, b, c}, {a, a, c}, {a, c, c}, {1, b, 3652059}} {
			for name, call := range calls {
				first, e := call(x[0], x[1])
				second, f := call(x[1], x[2])
				sum, g := ratio.Add(first, second)
				if whole, h := call(x[0], x[2]); sum != whole || e != api.OK || f != api.OK || g != api.OK || h != api.OK {
					t.Fatalf("%s of %v: %v and %v are not %v: %d, %d, %d, %d", name, x, first, second, whole, e, f, g, h)
				}
			}
		}
	}
}

// TestLowestTerms are of P8.2 and P8.3: each number that divides 360, 365, and 365 times 366 stands below, and none but these.
func TestLowestTerms(t *testing.T) {
	bottoms := map[string]int{"By360": 360, "By365": 365, "ByYears": 365 * 366}
	met := map[string]map[int]bool{"By360": {}, "By365": {}, "ByYears": {}}
	for name, call := range calls {
		for a := number(2023, 1, 1); a < number(2024, 1, 1); a++ {
			for b := number(2024, 1, 1); b < number(2025, 1, 1); b++ {
				got, e := call(a, b)
				if e != api.OK || !ratio.Right(got) || bottoms[name]%got.D != 0 {
					t.Fatalf("%s(%d, %d) = %v, %d", name, a, b, got, e)
				}
				met[name][got.D] = true
			}
		}
		for d := 1; d <= bottoms[name]; d++ {
			if bottoms[name]%d == 0 && !met[name][d] {
				t.Errorf("%s: no part by %d", name, d)
			}
		}
	}
}

// TestFirstAndLast are of P8.2 and P8.3: the first day of all and the last one.
func TestFirstAndLast(t *testing.T) {
	answered(t, "By360", 1, 3652059, api.Ratio{N: 1826029, D: 180})
	answered(t, "By365", 1, 3652059, api.Ratio{N: 3652058, D: 365})
	// All years but the last one's last day.
	answered(t, "ByYears", 1, 3652059, api.Ratio{N: 9999*365 - 1, D: 365})
}

// TestExamples are those of the chapter, and DOC.md's sixth one.
func TestExamples(t *testing.T) {
	a, b := number(2023, 12, 31), number(2024, 1, 2)
	answered(t, "By360", a, b, api.Ratio{N: 1, D: 180})
	answered(t, "By365", a, b, api.Ratio{N: 2, D: 365})
	answered(t, "ByYears", a, b, api.Ratio{N: 731, D: 133590})
}
