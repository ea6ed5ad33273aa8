package cal

import (
	"math"
	"math/rand"
	"slices"
	"sync"
	"testing"
	"time"

	"demurrage/api"
	"demurrage/rule"
)

const (
	first = 1
	end   = 3652059
)

// day0 is the day ahead of the first one, as the library's calendar knows it, which goes by the Gregorian rule for all years too.
var day0 = time.Date(1, time.January, 0, 0, 0, 0, 0, time.UTC).Unix() / 86400

// at is a day of the library's calendar by its number.
func at(n int) time.Time { return time.Unix((int64(n)+day0)*86400, 0).UTC() }

// on is the number of a day by its year, month and day of the month.
func on(y, m, d int) int {
	return int(time.Date(y, time.Month(m), d, 0, 0, 0, 0, time.UTC).Unix()/86400 - day0)
}

// noDays are numbers that are no day's, near and far off.
var noDays = []int{0, -1, -2, -6, -7, -365, 3652060, 3652061, 3652066, 3652067, 7304118, -3652059, math.MinInt, math.MinInt + 1, math.MinInt + 7, math.MaxInt, math.MaxInt - 1,
	math.MinInt32, math.MaxInt32, 1 << 32, 1<<32 + 1, 1<<32 + 738945, -1 << 32, -1<<32 + 738945, 1 << 62, 1<<62 + 738945, -1 << 62}

// weekend is what is off of Saturdays and Sundays.
var weekend = [7]bool{5: true, 6: true}

// week is what is off by bits, Monday's the lowest.
func week(bits int) (off [7]bool) {
	for i := range off {
		off[i] = bits>>i&1 == 1
	}
	return off
}

// fixed, nth, last and fromEaster are rules of all years, without a shift.
func fixed(m, d int) api.Rule { return api.Rule{Kind: api.RFixed, Month: m, Day: d, From: 1, To: 9999} }

func nth(m, weekday, k int) api.Rule {
	return api.Rule{Kind: api.RNth, Month: m, Day: weekday, K: k, From: 1, To: 9999}
}

func last(m, weekday int) api.Rule {
	return api.Rule{Kind: api.RLast, Month: m, Day: weekday, From: 1, To: 9999}
}

func fromEaster(off int) api.Rule { return api.Rule{Kind: api.REaster, Off: off, From: 1, To: 9999} }

// with is a rule with a shift.
func with(r api.Rule, shift int) api.Rule {
	r.Shift = shift
	return r
}

// years is a rule of some years.
func years(r api.Rule, from, to int) api.Rule {
	r.From, r.To = from, to
	return r
}

// someRules are rules of each kind and each shift.
var someRules = []api.Rule{
	with(fixed(1, 1), api.SNear), with(fixed(12, 31), api.SNext), with(fixed(7, 4), api.SNear), fixed(12, 25), with(fixed(12, 26), api.SNext), fixed(2, 29), years(fixed(5, 1), 2010, 2023),
	nth(11, 3, 4), nth(1, 0, 3), nth(2, 5, 5), with(nth(12, 6, 5), api.SNear), last(5, 0), with(last(12, 6), api.SNext), last(2, 5),
	fromEaster(-2), fromEaster(1), fromEaster(39), fromEaster(50), with(fromEaster(-100), api.SNear), with(fromEaster(250), api.SNext), fromEaster(0),
}

// wrongRules are rules that may not be, of each kind.
var wrongRules = []api.Rule{
	{}, fixed(2, 30), fixed(13, 1), fixed(0, 1), fixed(4, 0), nth(6, 7, 1), nth(6, -1, 1), nth(6, 1, 0), nth(6, 1, 6), nth(0, 1, 1), last(13, 1), last(6, 7),
	fromEaster(-101), fromEaster(251), with(fixed(1, 1), 3), with(fixed(1, 1), -1), years(fixed(1, 1), 0, 1), years(fixed(1, 1), 2, 1), years(fixed(1, 1), 1, 10000), {Kind: 4, Month: 1, Day: 1, From: 1, To: 9999},
	{Kind: -1, Month: 1, Day: 1, From: 1, To: 9999},
}

// rules are so many of them that may be, one behind the other.
func rules(many int) []api.Rule {
	all := make([]api.Rule, many)
	for i := range all {
		all[i] = someRules[i%len(someRules)]
	}
	return all
}

// inRow are so many days, each the same number of days behind the one ahead, from a first one on.
func inRow(from, many, step int) []int {
	days := make([]int, many)
	for i := range days {
		days[i] = from + i*step
	}
	return days
}

// turned is a list with another element at a place, in new memory.
func turned[T any](l []T, place int, to T) []T {
	l = slices.Clone(l)
	l[place] = to
	return l
}

// room is a list with room behind its end, where other elements lie.
func room[T any](l []T, there T) []T {
	more := slices.Repeat([]T{there}, len(l)+40)
	copy(more, l)
	return more[:len(l)]
}

// whole is all of a list's memory, also what is behind its end.
func whole[T any](l []T) []T { return slices.Clone(l[:cap(l)]) }

// copied is a calendar in memory of its own.
func copied(c api.Cal) api.Cal {
	return api.Cal{Off: c.Off, Rules: slices.Clone(c.Rules), Days: slices.Clone(c.Days)}
}

// same: are two calendars the same? A list without elements may be nil.
func same(a, b api.Cal) bool {
	return a.Off == b.Off && slices.Equal(a.Rules, b.Rules) && slices.Equal(a.Days, b.Days)
}

// daysOf are a calendar's rules' days of some years, by what chapter 12 tells of each year.
func daysOf(c api.Cal, from, to int) map[int]bool {
	days := map[int]bool{}
	for _, r := range c.Rules {
		for y := max(from, r.From); y <= min(to, r.To); y++ {
			if n, there := rule.In(r, y); there {
				days[n] = true
			}
		}
	}
	return days
}

// isOf is the chapter's words on days of business, where the days of rules are told.
func isOf(c api.Cal, n int, ofRules map[int]bool) bool {
	if n < first || n > end || ofRules[n] {
		return false
	}
	if c.Off[(int(at(n).Weekday())+6)%7] {
		return false
	}
	for _, d := range c.Days {
		if d == n {
			return false
		}
	}
	return true
}

// held holds each day of a span, and how many there are of business, against the chapter's words.
func held(t *testing.T, c api.Cal, from, to int) {
	t.Helper()
	ofRules := daysOf(c, at(from).Year()-2, at(to).Year()+2)
	many := 0
	for n := from; n < to; n++ {
		want := isOf(c, n, ofRules)
		is(t, c, n, want)
		if want {
			many++
		}
	}
	if from >= first && to <= end && to-from <= 4000 {
		counted(t, c, from, to, many)
	}
}

// may holds May of a calendar against what it should be.
func may(t *testing.T, c api.Cal, want bool) {
	t.Helper()
	if got := May(c); got != want {
		t.Errorf("May of off %v, %d rules, %d days = %v", c.Off, len(c.Rules), len(c.Days), got)
	}
}

// is holds Is against what it should be.
func is(t *testing.T, c api.Cal, n int, want bool) {
	t.Helper()
	if got := Is(c, n); got != want {
		t.Errorf("Is of off %v, %d rules, %d days, of %d = %v", c.Off, len(c.Rules), len(c.Days), n, got)
	}
}

// counted holds Many against how many there should be.
func counted(t *testing.T, c api.Cal, a, b, want int) {
	t.Helper()
	if got, e := Many(c, a, b); got != want || e != api.OK {
		t.Errorf("Many of off %v, %d rules, %d days, of %d and %d = %d, %d, not %d", c.Off, len(c.Rules), len(c.Days), a, b, got, e, want)
	}
}

// refused holds Many against a code, with 0 beside it.
func refused(t *testing.T, c api.Cal, a, b int, want api.Errno) {
	t.Helper()
	if got, e := Many(c, a, b); got != 0 || e != want {
		t.Errorf("Many of %d and %d = %d, %d, not %d", a, b, got, e, want)
	}
}

// united holds Union against a calendar, and what was handed in against what it was.
func united(t *testing.T, a, b, want api.Cal) api.Cal {
	t.Helper()
	wasA, wasB := copied(a), copied(b)
	got, e := Union(a, b)
	if !same(got, want) || e != api.OK {
		t.Errorf("Union of %+v and %+v = %+v, %d, not %+v", a, b, got, e, want)
	}
	if !same(a, wasA) || !same(b, wasB) {
		t.Errorf("Union of %+v and %+v leaves %+v and %+v", wasA, wasB, a, b)
	}
	return got
}

// notUnited holds Union against ErrArg and nothing, either way.
func notUnited(t *testing.T, a, b api.Cal) {
	t.Helper()
	for _, x := range [][2]api.Cal{{a, b}, {b, a}} {
		c, e := Union(x[0], x[1])
		if e != api.ErrArg || c.Off != [7]bool{} || len(c.Rules) != 0 || len(c.Days) != 0 {
			t.Errorf("Union: off %v, %d rules, %d days, %d", c.Off, len(c.Rules), len(c.Days), e)
		}
	}
}

// TestMayOff is of P13.1: what may be off is anything but all days of the week.
func TestMayOff(t *testing.T) {
	for bits := range 128 {
		off := week(bits)
		may(t, api.Cal{Off: off}, bits != 127)
		may(t, api.Cal{Off: off, Rules: []api.Rule{}, Days: []int{}}, bits != 127)
		may(t, api.Cal{Off: off, Rules: rules(100), Days: inRow(first, 1000, 1)}, bits != 127)
	}
}

// TestMayRules is of P13.1: at most 100 rules, all of them such that may be.
func TestMayRules(t *testing.T) {
	for many := range 131 {
		may(t, api.Cal{Rules: rules(many)}, many <= 100)
		may(t, api.Cal{Off: weekend, Rules: rules(many), Days: inRow(738000, 1000, 3)}, many <= 100)
	}
	for _, many := range []int{200, 1000, 5000} {
		may(t, api.Cal{Rules: rules(many)}, false)
	}
	// The same rule may be there more than once.
	may(t, api.Cal{Rules: slices.Repeat([]api.Rule{fixed(1, 1)}, 100)}, true)
	may(t, api.Cal{Rules: slices.Repeat([]api.Rule{fixed(1, 1)}, 101)}, false)
	for _, wrong := range wrongRules {
		for _, many := range []int{1, 2, 3, 50, 99, 100} {
			for place := range many {
				may(t, api.Cal{Rules: turned(rules(many), place, wrong)}, false)
			}
		}
	}
	// What is behind the end of the list isn't in it.
	may(t, api.Cal{Rules: room(rules(99), wrongRules[0])}, true)
}

// TestMayDays is of P13.1: at most 1000 Days.
func TestMayDays(t *testing.T) {
	for many := range 1101 {
		may(t, api.Cal{Days: inRow(738000, many, 1)}, many <= 1000)
	}
	for _, many := range []int{2000, 10000, 65536, 100000} {
		may(t, api.Cal{Days: inRow(first, many, 1)}, false)
	}
	may(t, api.Cal{Off: weekend, Rules: rules(100), Days: inRow(first, 1000, 3655)}, true)
	may(t, api.Cal{Off: weekend, Rules: rules(100), Days: inRow(first, 1001, 3650)}, false)
	may(t, api.Cal{Days: room(inRow(738000, 1000, 1), 0)}, true)
}

// TestMayNoDay is of P13.1: Days are days, at each place.
func TestMayNoDay(t *testing.T) {
	for _, wrong := range noDays {
		may(t, api.Cal{Days: []int{wrong}}, false)
		for _, many := range []int{2, 3, 10, 1000} {
			days := inRow(738000, many, 2)
			for place := range many {
				may(t, api.Cal{Days: turned(days, place, wrong)}, false)
			}
		}
		// Also such that rise: what is no day is the first one then, or the last.
		days := []int{wrong, first, 738000, end}
		slices.Sort(days)
		may(t, api.Cal{Days: days}, false)
	}
	may(t, api.Cal{Days: []int{0, 1}}, false)
	may(t, api.Cal{Days: []int{-2, -1, 0, 1, 2}}, false)
	may(t, api.Cal{Days: []int{3652059, 3652060}}, false)
	may(t, api.Cal{Days: []int{math.MinInt, math.MaxInt}}, false)
}

// TestMayBoundDays is of P13.1: the first and the last day of all may be among Days.
func TestMayBoundDays(t *testing.T) {
	for _, days := range [][]int{{1}, {3652059}, {1, 2}, {1, 3652059}, {3652058, 3652059}, {1, 2, 738945, 3652058, 3652059}} {
		may(t, api.Cal{Days: days}, true)
	}
	may(t, api.Cal{Days: inRow(1, 1000, 1)}, true)
	may(t, api.Cal{Days: inRow(3652059-999, 1000, 1)}, true)
	may(t, api.Cal{Days: inRow(0, 1000, 1)}, false)
	may(t, api.Cal{Days: inRow(3652060-999, 1000, 1)}, false)
}

// TestMayRise is of P13.1: Days rise, each above the one ahead.
func TestMayRise(t *testing.T) {
	for _, many := range []int{2, 3, 10, 1000} {
		days := inRow(738000, many, 5)
		may(t, api.Cal{Days: days}, true)
		for place := 1; place < many; place++ {
			ahead := days[place-1]
			may(t, api.Cal{Days: turned(days, place, ahead)}, false)
			may(t, api.Cal{Days: turned(days, place, ahead-1)}, false)
			may(t, api.Cal{Days: turned(days, place, ahead+1)}, true)
		}
		slices.Reverse(days)
		may(t, api.Cal{Days: days}, false)
	}
	for _, days := range [][]int{{1, 1}, {3652059, 3652059}, {3652059, 1}, {2, 1}, {738945, 738945}, {1, 3, 2}, {1, 2, 2}, {1, 1, 2}, {5, 6, 7, 5}, {5, 6, 7, 6}} {
		may(t, api.Cal{Days: days}, false)
	}
}

// TestMayNothing is of P13.1: a calendar of which nothing is off may be.
func TestMayNothing(t *testing.T) {
	may(t, api.Cal{}, true)
	may(t, api.Cal{Rules: []api.Rule{}, Days: []int{}}, true)
	is(t, api.Cal{}, first, true)
	is(t, api.Cal{}, end, true)
	counted(t, api.Cal{}, first, first+4000, 4000)
}

// TestIsWeekdays is of P13.1: what is off of the week, each way of it that may be.
func TestIsWeekdays(t *testing.T) {
	for bits := range 127 {
		c := api.Cal{Off: week(bits)}
		for _, from := range []int{first, on(1900, 2, 20), on(2024, 2, 20), end - 30} {
			held(t, c, from, from+30)
		}
	}
	// 2024-02-26 is a Monday, and so is the first day of all; the last one is a Friday.
	monday := on(2024, 2, 26)
	for day := range 7 {
		c := api.Cal{Off: week(1 << day)}
		for i := range 7 {
			is(t, c, monday+i, i != day)
			is(t, c, first+i, i != day)
			is(t, c, end-4+i, i != day && i <= 4)
		}
	}
}

// TestIsOfAllDays is of P13.1: each day there is, with weekends off, some Days, and a rule.
func TestIsOfAllDays(t *testing.T) {
	c := api.Cal{Off: weekend, Rules: []api.Rule{with(fixed(1, 1), api.SNear)}, Days: inRow(1, 1000, 3655)}
	var all sync.WaitGroup
	for from := first; from <= end; from += 500000 {
		all.Go(func() { held(t, c, from, min(from+500000, end+1)) })
	}
	all.Wait()
}

// TestIsDays is of P13.1: Days, and the days beside them, the first and the last of all among them.
func TestIsDays(t *testing.T) {
	for _, days := range [][]int{{1}, {3652059}, {1, 3, 5}, {738945}, {738943, 738945, 738947}, {3652055, 3652057, 3652059}, inRow(738000, 1000, 2), inRow(1, 1000, 3655)} {
		c := api.Cal{Days: days}
		for _, n := range days {
			is(t, c, n, false)
			is(t, c, n-1, n > first)
			is(t, c, n+1, n < end)
		}
	}
	// Two days beside each other, and a gap of one.
	c := api.Cal{Days: []int{738943, 738944, 738946}}
	for i, want := range []bool{true, false, false, true, false, true} {
		is(t, c, 738942+i, want)
	}
	// Each of a long list, and none of those between.
	c.Days = inRow(736000, 1000, 3)
	held(t, c, 735990, 739010)
	c.Days = inRow(736000, 1000, 1)
	held(t, c, 735990, 737010)
	// What is behind the end of the list isn't in it.
	is(t, api.Cal{Days: room([]int{738943, 738944}, 738950)}, 738950, true)
}

// TestIsRules is of P13.1: days of rules, as chapter 12 tells them, one by one and all of them.
func TestIsRules(t *testing.T) {
	spans := [][2]int{{first, 1500}, {on(2003, 11, 1), on(2014, 3, 1)}, {on(2019, 6, 1), on(2030, 3, 1)}, {end - 1500, end + 1}}
	for _, span := range spans {
		for _, r := range someRules {
			held(t, api.Cal{Rules: []api.Rule{r}}, span[0], span[1])
		}
		held(t, api.Cal{Rules: someRules}, span[0], span[1])
		held(t, api.Cal{Off: weekend, Rules: someRules, Days: inRow(on(2020, 1, 1), 300, 5)}, span[0], span[1])
	}
}

// TestIsEachRule is of P13.1: the rule at each place of a long list counts.
func TestIsEachRule(t *testing.T) {
	c := api.Cal{Rules: slices.Repeat([]api.Rule{years(fixed(3, 3), 1, 1)}, 100)}
	for place := range c.Rules {
		is(t, c, on(2024, 8, 14), true)
		is(t, api.Cal{Rules: turned(c.Rules, place, fixed(8, 14))}, on(2024, 8, 14), false)
	}
	c.Rules = nil
	for i := range 100 {
		c.Rules = append(c.Rules, fixed(1+i%12, 1+i/12))
	}
	held(t, c, on(2023, 1, 1), on(2025, 1, 1))
}

// TestIsShifted is of P13.1: days that a shift has brought elsewhere, into another year too, and those that they were shifted from.
func TestIsShifted(t *testing.T) {
	newYear, eve := fixed(1, 1), fixed(12, 31)
	for _, x := range []struct {
		r    api.Rule
		n    int
		want bool
	}{
		{with(newYear, api.SNear), on(2021, 12, 31), false}, {with(newYear, api.SNear), on(2022, 1, 1), true}, {with(newYear, api.SNear), on(2022, 1, 3), true},
		{with(newYear, api.SNext), on(2021, 12, 31), true}, {with(newYear, api.SNext), on(2022, 1, 1), true}, {with(newYear, api.SNext), on(2022, 1, 3), false},
		{newYear, on(2021, 12, 31), true}, {newYear, on(2022, 1, 1), false}, {newYear, on(2022, 1, 3), true},
		{with(eve, api.SNext), on(2023, 1, 2), false}, {with(eve, api.SNext), on(2022, 12, 31), true}, {with(eve, api.SNear), on(2022, 12, 30), false},
		{with(eve, api.SNear), on(2024, 1, 1), false}, {with(eve, api.SNear), on(2023, 12, 31), true},
		{years(with(newYear, api.SNear), 2022, 2022), on(2021, 12, 31), false}, {years(with(newYear, api.SNear), 2021, 2021), on(2021, 12, 31), true},
		{years(with(eve, api.SNext), 2022, 2022), on(2023, 1, 2), false}, {years(with(eve, api.SNext), 2023, 2023), on(2023, 1, 2), true},
		{nth(11, 3, 4), on(2024, 11, 28), false}, {nth(11, 3, 4), on(2024, 11, 21), true}, {last(5, 0), on(2024, 5, 27), false}, {last(5, 0), on(2024, 5, 20), true},
		{fromEaster(-2), on(2024, 3, 29), false}, {fromEaster(1), on(2024, 4, 1), false}, {fromEaster(1), on(2024, 4, 2), true}, {fromEaster(-100), on(2023, 12, 22), false},
		{fixed(2, 29), on(2024, 2, 29), false}, {fixed(2, 29), on(2023, 2, 28), true}, {fixed(2, 29), on(2023, 3, 1), true},
		{newYear, first, false}, {newYear, first + 1, true}, {eve, end, false}, {eve, end - 1, true},
	} {
		is(t, api.Cal{Rules: []api.Rule{x.r}}, x.n, x.want)
		is(t, api.Cal{Rules: []api.Rule{fixed(8, 14), x.r, fixed(8, 15)}}, x.n, x.want)
	}
}

// TestIsOfNoDay is of P13.1: numbers of no day are none of business, whatever is off.
func TestIsOfNoDay(t *testing.T) {
	r := rand.New(rand.NewSource(1))
	for _, c := range []api.Cal{{}, {Off: weekend}, {Off: week(95)}, {Off: week(31)}, {Rules: someRules}, {Days: []int{1, 3652059}}, {Off: weekend, Rules: someRules, Days: inRow(1, 1000, 3655)}} {
		for _, n := range noDays {
			is(t, c, n, false)
		}
		for n := range 400 {
			is(t, c, -n, false)
			is(t, c, 3652060+n, false)
		}
		for range 500 {
			if n := int(r.Uint64()) >> r.Intn(40); n < first || n > end {
				is(t, c, n, false)
			}
		}
	}
}

// TestUnion is of P13.2: rules in their order, Days rising and each once, what is off in either.
func TestUnion(t *testing.T) {
	a := api.Cal{Off: weekend, Rules: []api.Rule{fixed(12, 25), fixed(1, 1), last(5, 0)}, Days: []int{738000, 738010, 738020, 738030}}
	b := api.Cal{Off: week(0b0110000), Rules: []api.Rule{fromEaster(1), fixed(1, 1)}, Days: []int{737000, 738010, 738015, 738030, 739000}}
	off := [7]bool{4: true, 5: true, 6: true}
	days := []int{737000, 738000, 738010, 738015, 738020, 738030, 739000}
	united(t, a, b, api.Cal{Off: off, Rules: []api.Rule{fixed(12, 25), fixed(1, 1), last(5, 0), fromEaster(1), fixed(1, 1)}, Days: days})
	united(t, b, a, api.Cal{Off: off, Rules: []api.Rule{fromEaster(1), fixed(1, 1), fixed(12, 25), fixed(1, 1), last(5, 0)}, Days: days})
	united(t, a, a, api.Cal{Off: a.Off, Rules: []api.Rule{fixed(12, 25), fixed(1, 1), last(5, 0), fixed(12, 25), fixed(1, 1), last(5, 0)}, Days: a.Days})
	united(t, b, b, api.Cal{Off: b.Off, Rules: []api.Rule{fromEaster(1), fixed(1, 1), fromEaster(1), fixed(1, 1)}, Days: b.Days})
}

// TestUnionEmpty is of P13.2: lists that are empty, or nil.
func TestUnionEmpty(t *testing.T) {
	c := api.Cal{Off: weekend, Rules: rules(7), Days: []int{1, 738945, 3652059}}
	for _, none := range []api.Cal{{}, {Rules: []api.Rule{}}, {Days: []int{}}, {Rules: []api.Rule{}, Days: []int{}}, {Rules: make([]api.Rule, 0, 9), Days: make([]int, 0, 9)}} {
		united(t, c, none, c)
		united(t, none, c, c)
		united(t, none, none, api.Cal{})
		united(t, none, api.Cal{}, api.Cal{})
		united(t, api.Cal{Off: weekend}, none, api.Cal{Off: weekend})
		united(t, none, api.Cal{Rules: c.Rules}, api.Cal{Rules: c.Rules})
		united(t, api.Cal{Days: c.Days}, none, api.Cal{Days: c.Days})
	}
	united(t, api.Cal{Rules: c.Rules}, api.Cal{Off: weekend, Days: c.Days}, c)
	united(t, api.Cal{Days: c.Days}, api.Cal{Off: weekend, Rules: c.Rules}, c)
}

// TestUnionOff is of P13.2: what is off in either, each two that may be; ErrArg, where that is all of the week.
func TestUnionOff(t *testing.T) {
	for x := range 127 {
		for y := range 127 {
			a, b := api.Cal{Off: week(x), Days: []int{5}}, api.Cal{Off: week(y), Rules: rules(1)}
			if x|y == 127 {
				notUnited(t, a, b)
				continue
			}
			united(t, a, b, api.Cal{Off: week(x | y), Rules: rules(1), Days: []int{5}})
		}
	}
}

// TestUnionRules is of P13.2: 100 rules together just may be, 101 not; a rule that both have counts twice.
func TestUnionRules(t *testing.T) {
	all := rules(100)
	for many := range 101 {
		a, b := api.Cal{Off: weekend, Rules: all[:many]}, api.Cal{Rules: all[many:], Days: []int{9}}
		united(t, a, b, api.Cal{Off: weekend, Rules: all, Days: []int{9}})
		notUnited(t, a, api.Cal{Rules: append(rules(1), all[many:]...), Days: []int{9}})
	}
	one := slices.Repeat([]api.Rule{fixed(1, 1)}, 100)
	united(t, api.Cal{Rules: one[:50]}, api.Cal{Rules: one[:50]}, api.Cal{Rules: one})
	notUnited(t, api.Cal{Rules: one[:50]}, api.Cal{Rules: one[:51]})
	notUnited(t, api.Cal{Rules: one[:51]}, api.Cal{Rules: one[:51]})
	notUnited(t, api.Cal{Rules: all}, api.Cal{Rules: all[:1]})
	notUnited(t, api.Cal{Rules: all}, api.Cal{Rules: all})
	united(t, api.Cal{Rules: all}, api.Cal{}, api.Cal{Rules: all})
}

// TestUnionDays is of P13.2: 1000 Days together just may be, 1001 not; a day that both have counts once.
func TestUnionDays(t *testing.T) {
	all := inRow(730000, 1001, 7)
	for _, many := range []int{0, 1, 2, 499, 500, 501, 999, 1000} {
		a, b := api.Cal{Off: weekend, Days: all[:many]}, api.Cal{Rules: rules(2), Days: all[many:1000]}
		united(t, a, b, api.Cal{Off: weekend, Rules: rules(2), Days: all[:1000]})
		united(t, b, a, api.Cal{Off: weekend, Rules: rules(2), Days: all[:1000]})
	}
	for _, many := range []int{1, 2, 499, 500, 501, 999, 1000} {
		notUnited(t, api.Cal{Days: all[:many]}, api.Cal{Days: all[many:]})
		notUnited(t, api.Cal{Days: all[:1000]}, api.Cal{Days: all[many:]})
	}
	thousand := api.Cal{Days: all[:1000]}
	united(t, thousand, thousand, thousand)
	united(t, thousand, api.Cal{Days: all[:400]}, thousand)
	united(t, api.Cal{Days: all[600:1000]}, thousand, thousand)
	united(t, api.Cal{Days: all[:600]}, api.Cal{Days: all[400:1000]}, thousand)
	notUnited(t, api.Cal{Days: all[:600]}, api.Cal{Days: all[400:1001]})
	united(t, api.Cal{Days: inRow(1, 500, 2)}, api.Cal{Days: inRow(2, 500, 2)}, api.Cal{Days: inRow(1, 1000, 1)})
	notUnited(t, api.Cal{Days: inRow(1, 501, 2)}, api.Cal{Days: inRow(2, 500, 2)})
	united(t, api.Cal{Days: []int{1}}, api.Cal{Days: []int{3652059}}, api.Cal{Days: []int{1, 3652059}})
	united(t, api.Cal{Days: []int{3652059}}, api.Cal{Days: []int{1}}, api.Cal{Days: []int{1, 3652059}})
	// One bound that is kept doesn't help another one that isn't.
	notUnited(t, api.Cal{Rules: rules(60), Days: all[:10]}, api.Cal{Rules: rules(60), Days: all[:10]})
	notUnited(t, api.Cal{Off: week(15), Days: all[:10]}, api.Cal{Off: week(112), Days: all[:10]})
}

// anyCal is a calendar that may be, by chance, whose Days lie around a day.
func anyCal(r *rand.Rand, around int) api.Cal {
	c := api.Cal{Off: week(r.Intn(127) & r.Intn(127))}
	for range r.Intn(6) {
		c.Rules = append(c.Rules, with(someRules[r.Intn(len(someRules))], r.Intn(3)))
	}
	for range r.Intn(60) {
		c.Days = append(c.Days, min(max(around-200+r.Intn(400), first), end))
	}
	slices.Sort(c.Days)
	c.Days = slices.Compact(c.Days)
	return c
}

// someDay is a day by chance, of the bounds and those of our years more often.
func someDay(r *rand.Rand) int {
	switch r.Intn(4) {
	case 0:
		return first + r.Intn(500)
	case 1:
		return end - r.Intn(500)
	case 2:
		return first + r.Intn(end)
	}
	return on(2000, 1, 1) + r.Intn(15000)
}

// TestUnionOfBoth is of P13.2 and P13.4: a union's days of business are those of both, day by day.
func TestUnionOfBoth(t *testing.T) {
	r := rand.New(rand.NewSource(2))
	for range 400 {
		around := someDay(r)
		a, b := anyCal(r, around), anyCal(r, around)
		c, e := Union(a, b)
		off := true
		for i := range 7 {
			off = off && (a.Off[i] || b.Off[i])
		}
		if off {
			notUnited(t, a, b)
			continue
		}
		may(t, c, true)
		if e != api.OK || !slices.Equal(c.Rules, append(slices.Clone(a.Rules), b.Rules...)) {
			t.Errorf("Union of %+v and %+v = %+v, %d", a, b, c, e)
		}
		other, _ := Union(b, a)
		if !slices.Equal(other.Days, c.Days) || other.Off != c.Off {
			t.Errorf("Union of %+v and %+v = %+v, and %+v the other way", a, b, c, other)
		}
		for n := around - 400; n <= around+400; n++ {
			is(t, c, n, Is(a, n) && Is(b, n))
			is(t, other, n, Is(c, n))
		}
		from, to := max(around-400, first), min(around+400, end)
		held(t, c, from, to)
	}
}

// TestUnionOfThree is of P13.2: how three are taken together turns nothing.
func TestUnionOfThree(t *testing.T) {
	r := rand.New(rand.NewSource(3))
	for range 300 {
		around := someDay(r)
		a, b, c := anyCal(r, around), anyCal(r, around), anyCal(r, around)
		ab, e1 := Union(a, b)
		bc, e2 := Union(b, c)
		if e1 != api.OK || e2 != api.OK {
			continue
		}
		x, e1 := Union(ab, c)
		y, e2 := Union(a, bc)
		if !same(x, y) || e1 != e2 {
			t.Errorf("%+v, %d and %+v, %d", x, e1, y, e2)
		}
	}
}

// TestNothingTurned is of R3: what is handed in stays, also what is behind the end of its lists.
func TestNothingTurned(t *testing.T) {
	a := api.Cal{Off: weekend, Rules: room(rules(5), fixed(9, 9)), Days: room([]int{738000, 738010, 738020}, 7)}
	b := api.Cal{Rules: room(rules(3), fixed(8, 8)), Days: room([]int{737000, 738010, 738015}, 8)}
	rulesA, daysA, rulesB, daysB := whole(a.Rules), whole(a.Days), whole(b.Rules), whole(b.Days)
	want := api.Cal{Off: weekend, Rules: append(rules(5), rules(3)...), Days: []int{737000, 738000, 738010, 738015, 738020}}
	one := united(t, a, b, want)
	for range 3 {
		united(t, b, a, api.Cal{Off: weekend, Rules: append(rules(3), rules(5)...), Days: want.Days})
		united(t, a, a, api.Cal{Off: weekend, Rules: append(rules(5), rules(5)...), Days: a.Days})
		notUnited(t, a, api.Cal{Off: week(31)})
		May(a)
		Is(a, 738010)
		Many(a, 737000, 739000)
		if !slices.Equal(whole(a.Rules), rulesA) || !slices.Equal(whole(a.Days), daysA) || !slices.Equal(whole(b.Rules), rulesB) || !slices.Equal(whole(b.Days), daysB) {
			t.Errorf("turned: %+v and %+v", a, b)
		}
		if !same(one, want) {
			t.Errorf("a union is %+v now, not %+v", one, want)
		}
	}
}

// TestUnionsApart is of R3: unions that share a calendar, or that are made of another one, don't turn each other.
func TestUnionsApart(t *testing.T) {
	base := united(t, api.Cal{Rules: rules(3), Days: []int{10, 20, 30}}, api.Cal{Rules: rules(2), Days: []int{20, 40, 60}}, api.Cal{Rules: append(rules(3), rules(2)...), Days: []int{10, 20, 30, 40, 60}})
	was := copied(base)
	baseRules, baseDays := whole(base.Rules), whole(base.Days)
	made := make([]api.Cal, 30)
	for i := range made {
		more := api.Cal{Off: week(1 << (i % 7)), Rules: []api.Rule{fixed(1+i%12, 1+i%28)}, Days: []int{5 + i, 100 + i}}
		want := api.Cal{Off: more.Off, Rules: append(slices.Clone(was.Rules), more.Rules...), Days: append(slices.Clone(was.Days), more.Days...)}
		slices.Sort(want.Days)
		want.Days = slices.Compact(want.Days)
		made[i] = united(t, base, more, want)
	}
	wants := make([]api.Cal, len(made))
	for i, c := range made {
		wants[i] = copied(c)
	}
	for i := range made {
		for j := range made {
			if made[i].Off == made[j].Off {
				Union(made[i], made[j])
			}
		}
	}
	for i := range made {
		if !same(made[i], wants[i]) {
			t.Errorf("union %d is %+v now, not %+v", i, made[i], wants[i])
		}
	}
	if !same(base, was) || !slices.Equal(whole(base.Rules), baseRules) || !slices.Equal(whole(base.Days), baseDays) {
		t.Errorf("%+v now, not %+v", base, was)
	}
}

// TestUnionOwnMemory is of R3: what is written into a calendar behind a call isn't seen in a union, nor the other way.
func TestUnionOwnMemory(t *testing.T) {
	full := api.Cal{Rules: rules(2), Days: []int{10, 20}}
	for _, none := range []api.Cal{{}, {Rules: []api.Rule{}, Days: []int{}}, {Rules: rules(1), Days: []int{15}}} {
		for _, x := range [][2]api.Cal{{full, none}, {none, full}} {
			a, b := copied(x[0]), copied(x[1])
			c, e := Union(a, b)
			was := copied(c)
			if e != api.OK {
				t.Fatalf("Union of %+v and %+v: %d", a, b, e)
			}
			for _, l := range [][]int{a.Days, b.Days} {
				for i := range l {
					l[i] = 99
				}
			}
			for _, l := range [][]api.Rule{a.Rules, b.Rules} {
				for i := range l {
					l[i] = fixed(9, 9)
				}
			}
			if !same(c, was) {
				t.Errorf("a union is %+v now, not %+v", c, was)
			}
			a, b = copied(x[0]), copied(x[1])
			c, _ = Union(a, b)
			c.Days[0], c.Rules[0] = 99, fixed(9, 9)
			if !same(a, x[0]) || !same(b, x[1]) {
				t.Errorf("%+v and %+v now, not %+v and %+v", a, b, x[0], x[1])
			}
		}
	}
}

// TestMany is of P13.3: against a count day by day, of spans by chance.
func TestMany(t *testing.T) {
	r := rand.New(rand.NewSource(4))
	for range 300 {
		a := someDay(r)
		b := min(a+r.Intn(4001)>>r.Intn(12), end)
		held(t, anyCal(r, a), a, b)
	}
}

// TestManyShort is of P13.3: all spans of some days, a equal to b among them.
func TestManyShort(t *testing.T) {
	for _, c := range []api.Cal{{}, {Off: weekend}, {Off: weekend, Rules: someRules, Days: []int{1, 3, 738940, 738941, 738946, 3652050, 3652059}}} {
		for _, from := range []int{first, 738935, end - 15} {
			for a := from; a <= from+15; a++ {
				for b := a; b <= from+15; b++ {
					held(t, c, a, b)
				}
				counted(t, c, a, a, 0)
			}
		}
	}
	// The first day counts, and the last one doesn't.
	c := api.Cal{Days: []int{738945}}
	counted(t, c, 738945, 738946, 0)
	counted(t, c, 738944, 738945, 1)
	counted(t, c, 738944, 738946, 1)
	counted(t, c, 738946, 738947, 1)
	counted(t, c, 738945, 738945, 0)
	counted(t, c, 738946, 738946, 0)
}

// TestManyBounds is of P13.3: the first day of all as a, the last one as b.
func TestManyBounds(t *testing.T) {
	for _, c := range []api.Cal{{}, {Off: weekend}, {Off: weekend, Rules: someRules}, {Days: []int{1, 2, 3652057, 3652058, 3652059}}} {
		held(t, c, first, first)
		held(t, c, first, first+1)
		held(t, c, first, first+4000)
		held(t, c, end, end)
		held(t, c, end-1, end)
		held(t, c, end-4000, end)
	}
	counted(t, api.Cal{}, end, end, 0)
	counted(t, api.Cal{}, end-1, end, 1)
	counted(t, api.Cal{}, end-4000, end, 4000)
	// The last day of all is a Friday, which isn't counted: of its week Monday to Thursday are.
	counted(t, api.Cal{Off: weekend}, end-6, end, 4)
	counted(t, api.Cal{Days: []int{end}}, end-5, end, 5)
	counted(t, api.Cal{Days: []int{1}}, 1, 6, 4)
}

// TestManyFar is of P13.3: a span of 4000 days may be, one of 4001 not.
func TestManyFar(t *testing.T) {
	weeks := api.Cal{Off: weekend}
	for _, a := range []int{first, first + 1, 700000, 738000, 738001, end - 4001, end - 4000} {
		counted(t, api.Cal{}, a, a+4000, 4000)
		held(t, weeks, a, a+4000)
		counted(t, api.Cal{}, a, a+3999, 3999)
		for _, more := range []int{4001, 4002, 5000, 65536, 1000000, end - first} {
			if a+more <= end {
				refused(t, api.Cal{}, a, a+more, api.ErrBound)
				refused(t, weeks, a, a+more, api.ErrBound)
			}
		}
	}
	refused(t, weeks, first, end, api.ErrBound)
	refused(t, weeks, end-4001, end, api.ErrBound)
	refused(t, weeks, first, first+4001, api.ErrBound)
	// 4000 days are 571 weeks and 3 days: from a Monday on, those are of business.
	counted(t, weeks, first, first+4000, 571*5+3)
}

// TestManyCodes is of P13.3: ErrDay is ahead of ErrOrder, and that ahead of ErrBound.
func TestManyCodes(t *testing.T) {
	for _, c := range []api.Cal{{}, {Off: weekend, Rules: someRules, Days: []int{5}}} {
		for _, wrong := range noDays {
			for _, n := range append([]int{first, 2, 738945, end - 1, end}, noDays...) {
				refused(t, c, wrong, n, api.ErrDay)
				refused(t, c, n, wrong, api.ErrDay)
			}
		}
		refused(t, c, 0, 0, api.ErrDay)
		refused(t, c, 0, 1, api.ErrDay)
		refused(t, c, 1, 0, api.ErrDay)
		refused(t, c, end, end+1, api.ErrDay)
		refused(t, c, end+1, end, api.ErrDay)
		refused(t, c, end+1, end+1, api.ErrDay)
		for _, a := range []int{2, 3, 738945, end - 1, end} {
			for _, back := range []int{1, 2, 100, 3999, 4000, 4001, 700000} {
				if a-back >= first {
					refused(t, c, a, a-back, api.ErrOrder)
				}
			}
			refused(t, c, a, first, api.ErrOrder)
		}
		refused(t, c, first, end, api.ErrBound)
		refused(t, c, end, first, api.ErrOrder)
	}
}

// TestManyAddUp is of P13.3: what is counted of two spans beside each other is what is counted of both in one.
func TestManyAddUp(t *testing.T) {
	r := rand.New(rand.NewSource(5))
	for range 300 {
		c, a := anyCal(r, 738945), 738945-2000+r.Intn(2000)
		b := a + r.Intn(2000)
		d := b + r.Intn(2000)
		one, _ := Many(c, a, b)
		two, _ := Many(c, b, d)
		counted(t, c, a, d, one+two)
	}
}

// call is a call of each kind, and what was answered.
type call struct {
	a, b  api.Cal
	n, to int
	union api.Cal
	code  api.Errno
	is    bool
	many  int
	why   api.Errno
}

// answered makes the calls.
func answered(a, b api.Cal, n, to int) call {
	c := call{a: a, b: b, n: n, to: to}
	c.union, c.code = Union(a, b)
	c.is = Is(a, n)
	c.many, c.why = Many(a, n, to)
	return c
}

// held holds what is answered now against what was answered ahead.
func (c call) held(t *testing.T) {
	t.Helper()
	now := answered(c.a, c.b, c.n, c.to)
	if !same(now.union, c.union) || now.code != c.code || now.is != c.is || now.many != c.many || now.why != c.why {
		t.Errorf("%+v, and %+v ahead", now, c)
	}
	may(t, c.a, true)
	may(t, c.b, true)
}

// someCalls are calls by chance.
func someCalls(seed int64, many int) []call {
	r := rand.New(rand.NewSource(seed))
	all := make([]call, many)
	for i := range all {
		around := someDay(r)
		n := around - 300 + r.Intn(600)
		all[i] = answered(anyCal(r, around), anyCal(r, around), n, n-5+r.Intn(200))
	}
	return all
}

// TestAnyOrder is of P13.1 to P13.4: what was asked ahead turns nothing, be it of the same calendar, of another one, or of none that may be.
func TestAnyOrder(t *testing.T) {
	all := someCalls(6, 500)
	for i := range all {
		all[len(all)-1-i].held(t)
		all[len(all)-1-i].held(t)
	}
	r := rand.New(rand.NewSource(7))
	for range 1000 {
		may(t, api.Cal{Off: week(127)}, false)
		may(t, api.Cal{Days: []int{2, 1}}, false)
		all[r.Intn(len(all))].held(t)
	}
}

// TestAtOnce is of P13.1 to P13.4: calls beside each other share nothing.
func TestAtOnce(t *testing.T) {
	shared := someCalls(8, 150)
	var all sync.WaitGroup
	for range 8 {
		all.Go(func() {
			for _, c := range shared {
				c.held(t)
			}
		})
	}
	all.Wait()
}

// TestExample is the chapter's, of P13.3: Saturdays and Sundays off, from a Monday to the next one there are five.
func TestExample(t *testing.T) {
	c := api.Cal{Off: weekend}
	may(t, c, true)
	counted(t, c, on(2024, 2, 26), on(2024, 3, 4), 5)
	// By their numbers: 738945, 2024-02-29, is a Thursday.
	counted(t, c, 738942, 738949, 5)
	counted(t, c, first, first+7, 5)
	for i, want := range []bool{true, true, true, true, true, false, false, true} {
		is(t, c, 738942+i, want)
	}
}
