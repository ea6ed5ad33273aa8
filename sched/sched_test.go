package sched

import (
	"math"
	"math/rand"
	"slices"
	"strings"
	"sync"
	"testing"
	"time"

	"demurrage/api"
	"demurrage/cal"
	"demurrage/count"
	"demurrage/dates"
	"demurrage/roll"
	"demurrage/terms"
)

const (
	firstDay = 1
	lastDay  = 3652059
)

// apart are the months that a period may have.
func apart() []int { return []int{1, 2, 3, 4, 6, 12} }

// at is a day as the library's calendar knows it, which goes by the Gregorian rule for all years too.
func at(n int) time.Time { return time.Date(1, time.January, n, 0, 0, 0, 0, time.UTC) }

// day0 is the day ahead of the first one.
var day0 = at(0).Unix() / 86400

// number is the number of a day of the library's calendar.
func number(y, m, d int) int {
	return int(time.Date(y, time.Month(m), d, 0, 0, 0, 0, time.UTC).Unix()/86400 - day0)
}

// read is the number of a day such as 2024-02-29.
func read(t *testing.T, text string) int {
	t.Helper()
	day, err := time.Parse("2006-01-02", text)
	if err != nil {
		t.Fatal(err)
	}
	return int(day.Unix()/86400 - day0)
}

// list are the numbers of such days, a blank between each two.
func list(t *testing.T, text string) []int {
	t.Helper()
	var days []int
	for _, word := range strings.Fields(text) {
		days = append(days, read(t, word))
	}
	return days
}

// shown are days as a text, for a test that fails.
func shown(days []int) string {
	var words []string
	for i, n := range days {
		if len(days) > 12 && i == 6 {
			words = append(words, "..")
		}
		if i < 6 || i >= len(days)-6 {
			words = append(words, at(n).Format("2006-01-02"))
		}
	}
	return strings.Join(words, " ")
}

// closed are all days from one to another one, so far as there are such.
func closed(from, to int) []int {
	var days []int
	for n := max(from, firstDay); n <= min(to, lastDay); n++ {
		days = append(days, n)
	}
	return days
}

// off is a calendar in which nothing but these days is off.
func off(days ...[]int) api.Cal {
	all := slices.Concat(days...)
	slices.Sort(all)
	return api.Cal{Days: slices.Compact(all)}
}

// weekends is a calendar in which nothing but Saturdays and Sundays is off.
func weekends() api.Cal { return api.Cal{Off: [7]bool{5: true, 6: true}} }

// someRules are rules of each kind, some of which are shifted.
func someRules() []api.Rule {
	return []api.Rule{
		{Kind: api.RFixed, Month: 1, Day: 1, Shift: api.SNear, From: 1, To: 9999}, {Kind: api.RFixed, Month: 12, Day: 31, Shift: api.SNext, From: 1, To: 9999}, {Kind: api.RFixed, Month: 2, Day: 29, From: 1, To: 9999}, {Kind: api.RFixed, Month: 7, Day: 15, From: 2010, To: 2024},
		{Kind: api.RNth, Month: 1, Day: 0, K: 3, From: 1, To: 9999}, {Kind: api.RNth, Month: 11, Day: 3, K: 4, From: 1, To: 9999}, {Kind: api.RLast, Month: 5, Day: 4, From: 1, To: 9999}, {Kind: api.RLast, Month: 8, Day: 6, Shift: api.SNext, From: 1, To: 9999},
		{Kind: api.REaster, Off: -2, From: 1, To: 9999}, {Kind: api.REaster, Off: 1, From: 1, To: 9999},
	}
}

// bank is a calendar of weekends, rules and two runs of days.
func bank() api.Cal {
	c := weekends()
	c.Rules = someRules()
	c.Days = append(closed(number(2024, 3, 28), number(2024, 4, 3)), closed(number(2025, 2, 26), number(2025, 3, 4))...)
	return c
}

// someCals are calendars in which nothing is off, weekends, days, rules, and all of these.
func someCals() []api.Cal {
	only := weekends()
	only.Days = closed(number(2024, 1, 15), number(2024, 1, 17))
	return []api.Cal{{}, weekends(), only, {Rules: someRules()}, bank(), {Off: [7]bool{0: true, 1: true, 2: true, 4: true, 5: true, 6: true}}}
}

// loan are terms that may be, if their days may.
func loan(start, end, each int) api.Terms {
	return api.Terms{Money: 100000, Rate: 500, Start: start, End: end, Months: each}
}

// rolledOneByOne are days by chapter 14's To, one by one, and the first code.
func rolledOneByOne(days []int, c api.Cal, way int) ([]int, api.Errno) {
	var all []int
	for _, n := range days {
		to, e := roll.To(c, n, way)
		if e != 0 {
			return nil, e
		}
		all = append(all, to)
	}
	return all, 0
}

// wanted is P17.1 and P17.2, word by word, by what the chapters below tell.
func wanted(x api.Terms, c api.Cal) (api.Plan, api.Errno) {
	days, e := dates.Of(x)
	if e != 0 {
		return api.Plan{}, e
	}
	all, e := rolledOneByOne(days, c, x.Roll)
	if e != 0 {
		return api.Plan{}, e
	}
	p := api.Plan{Days: days, Rolled: all, Side: api.Side{Eom: x.Eom, End: all[len(all)-1], Freq: terms.Freq(x.Months)}}
	if x.Count == 6 {
		grid, e := dates.Grid(x)
		if e != 0 {
			return api.Plan{}, e
		}
		if p.Side.Refs, e = rolledOneByOne(grid, c, x.Roll); e != 0 {
			return api.Plan{}, e
		}
	}
	for i := 1; i < len(all); i++ {
		part, e := count.Part(x.Count, all[i-1], all[i], p.Side)
		if e != 0 {
			return api.Plan{}, e
		}
		p.Parts = append(p.Parts, part)
	}
	return p, 0
}

// same: are two plans the same, list by list?
func same(a, b api.Plan) bool {
	return slices.Equal(a.Days, b.Days) && slices.Equal(a.Rolled, b.Rolled) && slices.Equal(a.Parts, b.Parts) &&
		a.Side.Eom == b.Side.Eom && a.Side.End == b.Side.End && a.Side.Freq == b.Side.Freq && slices.Equal(a.Side.Refs, b.Side.Refs)
}

// copied is a plan in memory of its own.
func copied(p api.Plan) api.Plan {
	p.Days, p.Rolled, p.Parts, p.Side.Refs = slices.Clone(p.Days), slices.Clone(p.Rolled), slices.Clone(p.Parts), slices.Clone(p.Side.Refs)
	return p
}

// copiedCal is a calendar in memory of its own.
func copiedCal(c api.Cal) api.Cal {
	return api.Cal{Off: c.Off, Rules: slices.Clone(c.Rules), Days: slices.Clone(c.Days)}
}

// differ tells how two plans differ, for a test that fails.
func differ(t *testing.T, x api.Terms, c api.Cal, got api.Plan, e api.Errno, want api.Plan, code api.Errno) {
	t.Helper()
	t.Errorf("Of(%+v, off %v, %d rules, %d days) = code %d, not %d", x, c.Off, len(c.Rules), len(c.Days), e, code)
	t.Errorf("days %s, not %s", shown(got.Days), shown(want.Days))
	t.Errorf("rolled %s, not %s", shown(got.Rolled), shown(want.Rolled))
	t.Errorf("parts %v, not %v", got.Parts, want.Parts)
	t.Errorf("eom %v, end %d, freq %d, refs %s, not %v, %d, %d, %s", got.Side.Eom, got.Side.End, got.Side.Freq, shown(got.Side.Refs), want.Side.Eom, want.Side.End, want.Side.Freq, shown(want.Side.Refs))
}

// plans holds Of against a plan and a code.
func plans(t *testing.T, x api.Terms, c api.Cal, want api.Plan, code api.Errno) {
	t.Helper()
	if got, e := Of(x, c); !same(got, want) || e != code {
		differ(t, x, c, got, e, want, code)
	}
}

// refused holds that Of answers a code with nothing beside it.
func refused(t *testing.T, x api.Terms, c api.Cal, code api.Errno) {
	t.Helper()
	plans(t, x, c, api.Plan{}, code)
}

// held holds Of against the chapter's words, and against P17.3.
func held(t *testing.T, x api.Terms, c api.Cal) api.Errno {
	t.Helper()
	want, code := wanted(x, c)
	plans(t, x, c, want, code)
	got, e := Of(x, c)
	if e == api.OK && (len(got.Days) < 2 || len(got.Rolled) != len(got.Days) || len(got.Parts) != len(got.Days)-1 || !slices.IsSorted(got.Rolled)) {
		t.Errorf("Of(%+v): %d days, %d rolled: %s, %d parts", x, len(got.Days), len(got.Rolled), shown(got.Rolled), len(got.Parts))
	}
	return e
}

// TestConstants are those that the document tells.
func TestConstants(t *testing.T) {
	if api.MinDay != firstDay || api.MaxDay != lastDay || api.MaxRows != 1200 || api.MaxRoll != 60 || number(9999, 12, 31) != lastDay || number(1, 1, 1) != firstDay {
		t.Error(api.MinDay, api.MaxDay, api.MaxRows, api.MaxRoll)
	}
	if api.OK != 0 || api.ErrArg != 1 || api.ErrBound != 2 || api.ErrDay != 3 || api.ErrOrder != 4 || api.ErrSide != 5 || api.ErrNone != 8 {
		t.Error(api.OK, api.ErrArg, api.ErrBound, api.ErrDay, api.ErrOrder, api.ErrSide, api.ErrNone)
	}
	for i, way := range []int{api.CUS, api.CE, api.CISDA, api.CA360, api.CA365, api.CAA, api.CICMA} {
		if way != i {
			t.Error(i, way)
		}
	}
	for i, way := range []int{api.LNone, api.LNext, api.LModNext, api.LPrev, api.LModPrev} {
		if way != i {
			t.Error(i, way)
		}
	}
}

// everyWay holds terms by all ways to count and to roll, both ways round, with Eom and Long told and not.
func everyWay(t *testing.T, x api.Terms, c api.Cal) {
	t.Helper()
	for bits := range 8 {
		x.Back, x.Long, x.Eom = bits&1 == 1, bits&2 == 2, bits&4 == 4
		for x.Count = range 7 {
			for x.Roll = range 5 {
				held(t, x, c)
			}
		}
	}
}

// TestEveryWay is of P17.1, P17.2 and P17.3: loans with a stub and without one, whose days are of business and aren't, by all ways, by calendars of all sorts.
func TestEveryWay(t *testing.T) {
	for _, c := range someCals() {
		if !cal.May(c) {
			t.Fatalf("%+v", c)
		}
		for _, each := range apart() {
			for _, both := range [][2]int{
				{number(2024, 1, 15), number(2025, 2, 20)}, {number(2023, 12, 31), number(2024, 12, 31)}, {number(2024, 2, 29), number(2025, 3, 1)}, {number(2024, 8, 31), number(2024, 9, 1)}, {number(2024, 3, 29), number(2024, 6, 30)},
			} {
				everyWay(t, loan(both[0], both[1], each), c)
			}
		}
	}
}

// TestBounds is of P17.1 and P17.2: near the first and the last day of all, where a step beyond the loan may be no day, and where a day may roll to none.
func TestBounds(t *testing.T) {
	for _, c := range []api.Cal{{}, weekends(), off(closed(firstDay, 3), closed(lastDay-3, lastDay)), off(closed(firstDay, 40), closed(lastDay-40, lastDay)), {Off: [7]bool{0: true, 4: true}}} {
		for _, each := range apart() {
			for _, both := range [][2]int{{1, 2}, {1, 400}, {2, 60}, {3, 500}, {20, 150}, {31, 396}, {50, 51}} {
				everyWay(t, loan(both[0], both[1], each), c)
				everyWay(t, loan(lastDay+1-both[1], lastDay+1-both[0], each), c)
			}
		}
	}
}

// told are loans as texts, with the days as they are rolled, the periods' parts, and the steps as they are rolled.
type told struct {
	start, end      string
	each, way, roll int
	back, long, eom bool
	days, rolled    string
	parts           []api.Ratio
	refs            string
}

// held holds a plan against what is told.
func (w told) held(t *testing.T, c api.Cal) {
	t.Helper()
	x := loan(read(t, w.start), read(t, w.end), w.each)
	x.Count, x.Roll, x.Back, x.Long, x.Eom = w.way, w.roll, w.back, w.long, w.eom
	if w.days == "" {
		w.days = w.rolled
	}
	all := list(t, w.rolled)
	side := api.Side{Eom: w.eom, End: all[len(all)-1], Freq: 12 / w.each, Refs: list(t, w.refs)}
	plans(t, x, c, api.Plan{Days: list(t, w.days), Rolled: all, Parts: w.parts, Side: side}, api.OK)
	held(t, x, c)
}

// times is a part so many times.
func times(many, n, d int) []api.Ratio {
	return slices.Repeat([]api.Ratio{{N: n, D: d}}, many)
}

// TestTold is of P17.1: plans that are reckoned by hand, weekends off.
func TestTold(t *testing.T) {
	month := "2024-01-31 2024-02-29 2024-03-31 2024-04-30 2024-05-31 2024-06-30 2024-07-31"
	for _, w := range []told{
		// Ends of months, which stay in their months, or don't.
		{each: 1, way: 0, roll: 2, eom: true, start: "2024-01-31", end: "2024-07-31", days: month, rolled: "2024-01-31 2024-02-29 2024-03-29 2024-04-30 2024-05-31 2024-06-28 2024-07-31", parts: []api.Ratio{{N: 29, D: 360}, {N: 29, D: 360}, {N: 31, D: 360}, {N: 1, D: 12}, {N: 7, D: 90}, {N: 11, D: 120}}},
		{each: 1, way: 0, roll: 2, start: "2024-01-31", end: "2024-07-31", days: month, rolled: "2024-01-31 2024-02-29 2024-03-29 2024-04-30 2024-05-31 2024-06-28 2024-07-31", parts: []api.Ratio{{N: 29, D: 360}, {N: 1, D: 12}, {N: 31, D: 360}, {N: 1, D: 12}, {N: 7, D: 90}, {N: 11, D: 120}}},
		{each: 1, way: 3, roll: 1, start: "2024-01-31", end: "2024-07-31", days: month, rolled: "2024-01-31 2024-02-29 2024-04-01 2024-04-30 2024-05-31 2024-07-01 2024-07-31", parts: []api.Ratio{{N: 29, D: 360}, {N: 4, D: 45}, {N: 29, D: 360}, {N: 31, D: 360}, {N: 31, D: 360}, {N: 1, D: 12}}},
		{each: 1, way: 4, roll: 3, start: "2024-01-31", end: "2024-07-31", days: month, rolled: "2024-01-31 2024-02-29 2024-03-29 2024-04-30 2024-05-31 2024-06-28 2024-07-31", parts: []api.Ratio{{N: 29, D: 365}, {N: 29, D: 365}, {N: 32, D: 365}, {N: 31, D: 365}, {N: 28, D: 365}, {N: 33, D: 365}}},
		{each: 1, way: 1, roll: 0, start: "2024-01-31", end: "2024-07-31", rolled: month, parts: []api.Ratio{{N: 29, D: 360}, {N: 31, D: 360}, {N: 1, D: 12}, {N: 1, D: 12}, {N: 1, D: 12}, {N: 1, D: 12}}},
		// A first day of the month that is rolled back, but into the month ahead.
		{each: 3, way: 3, roll: 4, start: "2024-06-01", end: "2024-12-01", days: "2024-06-01 2024-09-01 2024-12-01", rolled: "2024-06-03 2024-09-02 2024-12-02", parts: times(2, 91, 360)},
		{each: 3, way: 3, roll: 3, start: "2024-06-01", end: "2024-12-01", days: "2024-06-01 2024-09-01 2024-12-01", rolled: "2024-05-31 2024-08-30 2024-11-29", parts: times(2, 91, 360)},
		// The last one of the rolled days is February's last one; the last one of the days isn't, and the other way round.
		{each: 12, way: 2, roll: 3, start: "2025-01-31", end: "2025-03-01", days: "2025-01-31 2025-03-01", rolled: "2025-01-31 2025-02-28", parts: times(1, 7, 90)},
		{each: 1, way: 2, roll: 1, back: true, start: "2026-01-30", end: "2026-02-28", days: "2026-01-30 2026-01-31 2026-02-28", eom: true, rolled: "2026-01-30 2026-02-02 2026-03-02", parts: []api.Ratio{{N: 1, D: 180}, {N: 1, D: 12}}},
		{each: 1, way: 2, roll: 0, start: "2025-01-31", end: "2025-03-31", rolled: "2025-01-31 2025-02-28 2025-03-31", parts: times(2, 1, 12)},
		{each: 1, way: 2, roll: 0, start: "2024-12-31", end: "2025-02-28", rolled: "2024-12-31 2025-01-31 2025-02-28", parts: []api.Ratio{{N: 1, D: 12}, {N: 7, D: 90}}},
		// Eom is told beside.
		{each: 12, way: 0, roll: 0, eom: true, start: "2024-02-29", end: "2026-02-28", rolled: "2024-02-29 2025-02-28 2026-02-28", parts: times(2, 1, 1)},
		{each: 12, way: 0, roll: 0, start: "2024-02-29", end: "2026-02-28", rolled: "2024-02-29 2025-02-28 2026-02-28", parts: []api.Ratio{{N: 359, D: 360}, {N: 1, D: 1}}},
		// Turns of years.
		{each: 6, way: 5, roll: 0, start: "2023-11-01", end: "2024-05-01", rolled: "2023-11-01 2024-05-01", parts: times(1, 66491, 133590)},
		// Periods of a bond: the step beyond the loan, and the one that is left out, are told beside.
		{each: 3, way: 6, roll: 0, start: "2024-01-15", end: "2024-08-20", rolled: "2024-01-15 2024-04-15 2024-07-15 2024-08-20", parts: []api.Ratio{{N: 1, D: 4}, {N: 1, D: 4}, {N: 9, D: 92}}, refs: "2024-01-15 2024-04-15 2024-07-15 2024-10-15"},
		{each: 3, way: 6, roll: 1, long: true, start: "2024-01-15", end: "2024-08-20", rolled: "2024-01-15 2024-04-15 2024-08-20", parts: []api.Ratio{{N: 1, D: 4}, {N: 8, D: 23}}, refs: "2024-01-15 2024-04-15 2024-07-15 2024-10-15"},
		{each: 3, way: 6, roll: 1, back: true, start: "2024-01-15", end: "2025-02-20", rolled: "2024-01-15 2024-02-20 2024-05-20 2024-08-20 2024-11-20 2025-02-20", parts: append(times(1, 9, 92), times(4, 1, 4)...), refs: "2023-11-20 2024-02-20 2024-05-20 2024-08-20 2024-11-20 2025-02-20"},
		{each: 1, way: 6, roll: 1, start: "2024-03-15", end: "2024-06-01", days: "2024-03-15 2024-04-15 2024-05-15 2024-06-01", rolled: "2024-03-15 2024-04-15 2024-05-15 2024-06-03", parts: append(times(2, 1, 12), times(1, 19, 396)...), refs: "2024-03-15 2024-04-15 2024-05-15 2024-06-17"},
		{each: 1, way: 6, roll: 3, start: "2024-03-15", end: "2024-06-01", days: "2024-03-15 2024-04-15 2024-05-15 2024-06-01", rolled: "2024-03-15 2024-04-15 2024-05-15 2024-05-31", parts: append(times(2, 1, 12), times(1, 2, 45)...), refs: "2024-03-15 2024-04-15 2024-05-15 2024-06-14"},
		{each: 12, way: 6, roll: 0, start: "2024-01-15", end: "2024-08-20", rolled: "2024-01-15 2024-08-20", parts: times(1, 109, 183), refs: "2024-01-15 2025-01-15"},
	} {
		w.held(t, weekends())
	}
}

// TestByRules is of P17.1: rules and days of their own that are off turn rolled days and steps, by hand.
func TestByRules(t *testing.T) {
	c := weekends()
	c.Rules = []api.Rule{{Kind: api.REaster, Off: -2, From: 1, To: 9999}, {Kind: api.REaster, Off: 1, From: 1, To: 9999}, {Kind: api.RFixed, Month: 1, Day: 1, From: 1, To: 9999}, {Kind: api.RLast, Month: 5, Day: 4, From: 1, To: 9999}, {Kind: api.RNth, Month: 7, Day: 0, K: 1, From: 1, To: 9999}}
	for _, w := range []told{
		{each: 1, way: 3, roll: 2, start: "2024-01-01", end: "2024-04-01", days: "2024-01-01 2024-02-01 2024-03-01 2024-04-01", rolled: "2024-01-02 2024-02-01 2024-03-01 2024-04-02", parts: []api.Ratio{{N: 1, D: 12}, {N: 29, D: 360}, {N: 4, D: 45}}},
		{each: 1, way: 3, roll: 3, start: "2024-01-31", end: "2024-03-31", days: "2024-01-31 2024-02-29 2024-03-31", rolled: "2024-01-31 2024-02-29 2024-03-28", parts: []api.Ratio{{N: 29, D: 360}, {N: 7, D: 90}}},
		{each: 1, way: 3, roll: 1, start: "2024-03-29", end: "2024-06-30", days: "2024-03-29 2024-04-29 2024-05-29 2024-06-29 2024-06-30", rolled: "2024-04-02 2024-04-29 2024-05-29 2024-07-02 2024-07-02", parts: []api.Ratio{{N: 3, D: 40}, {N: 1, D: 12}, {N: 17, D: 180}, {N: 0, D: 1}}},
		{each: 2, way: 6, roll: 1, start: "2024-01-31", end: "2024-04-15", days: "2024-01-31 2024-03-31 2024-04-15", rolled: "2024-01-31 2024-04-02 2024-04-15", refs: "2024-01-31 2024-04-02 2024-06-03", parts: []api.Ratio{{N: 1, D: 6}, {N: 13, D: 372}}},
		{each: 2, way: 6, roll: 2, start: "2024-01-31", end: "2024-04-15", days: "2024-01-31 2024-03-31 2024-04-15", rolled: "2024-01-31 2024-03-28 2024-04-15", refs: "2024-01-31 2024-03-28 2024-05-30", parts: []api.Ratio{{N: 1, D: 6}, {N: 1, D: 21}}},
	} {
		w.held(t, c)
	}
	// Days of their own, around the end of a month: following goes into the next one, and so back, if that is bound to the month.
	c = weekends()
	c.Days = closed(number(2024, 4, 26), number(2024, 5, 6))
	for roll, day := range []string{"2024-04-30", "2024-05-07", "2024-04-25", "2024-04-25", "2024-04-25"} {
		told{each: 1, way: 1, roll: roll, start: "2024-03-29", end: "2024-05-31", back: true, days: "2024-03-29 2024-03-31 2024-04-30 2024-05-31", rolled: strings.Join([]string{"2024-03-29", []string{"2024-03-31", "2024-04-01", "2024-03-29", "2024-03-29", "2024-03-29"}[roll], day, "2024-05-31"}, " "), parts: [][]api.Ratio{
			{{N: 1, D: 360}, {N: 1, D: 12}, {N: 1, D: 12}}, {{N: 1, D: 180}, {N: 1, D: 10}, {N: 23, D: 360}}, {{N: 0, D: 1}, {N: 13, D: 180}, {N: 7, D: 72}}, {{N: 0, D: 1}, {N: 13, D: 180}, {N: 7, D: 72}}, {{N: 0, D: 1}, {N: 13, D: 180}, {N: 7, D: 72}},
		}[roll]}.held(t, c)
	}
}

// TestSide is of P17.1: what ways are told beside, each part of it by itself.
func TestSide(t *testing.T) {
	for _, each := range apart() {
		for way := range 7 {
			for bits := range 8 {
				// 2024-06-30 is a Sunday, 2025-08-31 too.
				x := loan(number(2024, 6, 30), number(2025, 8, 31), each)
				x.Count, x.Back, x.Long, x.Eom, x.Roll = way, bits&1 == 1, bits&2 == 2, bits&4 == 4, api.LNext
				p, e := Of(x, weekends())
				if e != api.OK || p.Side.Eom != x.Eom || p.Side.End != number(2025, 9, 1) || p.Side.Freq != 12/each {
					t.Errorf("Of(%+v): %+v, %d", x, p.Side, e)
				}
				grid, _ := dates.Grid(x)
				if want, _ := rolledOneByOne(grid, weekends(), api.LNext); way == api.CICMA && !slices.Equal(p.Side.Refs, want) || way != api.CICMA && len(p.Side.Refs) != 0 {
					t.Errorf("Of(%+v): refs %s", x, shown(p.Side.Refs))
				}
				if x.Roll = api.LNone; way == api.CICMA {
					p, _ = Of(x, weekends())
					if !slices.Equal(p.Side.Refs, grid) || !slices.Equal(p.Rolled, p.Days) || p.Side.End != x.End {
						t.Errorf("Of(%+v): %+v", x, p)
					}
				}
			}
		}
	}
}

// TestSameDay is of P17.1 and P17.3: days that roll to the same day are periods of no days, whose part is 0 by each way to count.
func TestSameDay(t *testing.T) {
	for way := range 7 {
		x := loan(number(2024, 8, 31), number(2024, 9, 1), 1)
		x.Count, x.Roll = way, api.LNext
		monday := number(2024, 9, 2)
		side := api.Side{End: monday, Freq: 12}
		if way == api.CICMA {
			side.Refs = []int{monday, number(2024, 9, 30)}
		}
		plans(t, x, weekends(), api.Plan{Days: []int{x.Start, x.End}, Rolled: []int{monday, monday}, Parts: times(1, 0, 1), Side: side}, api.OK)
		// Of ends of a February too, at which ways differ.
		for roll := 1; roll < 5; roll++ {
			c := off(closed(number(2025, 2, 20), number(2025, 3, 20)))
			for start := number(2025, 2, 20); start < number(2025, 3, 20); start += 5 {
				x = loan(start, number(2025, 3, 20), 1)
				x.Count, x.Roll, x.Eom = way, roll, start%2 == 0
				held(t, x, c)
				// And between days that aren't the same.
				x.End = number(2025, 5, 15)
				held(t, x, c)
				x.Start = number(2024, 12, 28)
				held(t, x, c)
				x.Back = true
				held(t, x, c)
			}
		}
	}
	// Three days in a row: two periods of no days, and then one of a month.
	c := off(closed(number(2024, 2, 29), number(2024, 4, 28)))
	for way := range 7 {
		x := loan(number(2024, 2, 29), number(2024, 5, 29), 1)
		x.Count, x.Roll = way, api.LNext
		p, e := Of(x, c)
		if e != api.OK || !slices.Equal(p.Rolled, list(t, "2024-04-29 2024-04-29 2024-04-29 2024-05-29")) || !slices.Equal(p.Parts[:2], times(2, 0, 1)) || p.Parts[2].N == 0 {
			t.Errorf("Of(%+v) = %+v, %d", x, p, e)
		}
		held(t, x, c)
	}
}

// TestSameSteps is of P17.2: where all steps roll to the same day, the way by periods is ErrSide, all others tell parts of no days.
func TestSameSteps(t *testing.T) {
	for _, w := range []struct {
		roll     int
		from, to string
	}{{api.LNext, "2024-01-10", "2024-03-01"}, {api.LModNext, "2024-01-31", "2024-03-30"}, {api.LPrev, "2024-01-10", "2024-03-01"}, {api.LModPrev, "2023-12-30", "2024-02-28"}} {
		c := off(closed(read(t, w.from), read(t, w.to)))
		for way := range 7 {
			for _, back := range []bool{false, true} {
				x := loan(number(2024, 1, 31), number(2024, 2, 29), 1)
				if w.roll == api.LNext || w.roll == api.LPrev {
					x.Start, x.End = number(2024, 1, 15), number(2024, 2, 15)
				}
				x.Count, x.Roll, x.Back = way, w.roll, back
				held(t, x, c)
				if w.roll == api.LModNext || w.roll == api.LModPrev {
					continue
				}
				if p, e := Of(x, c); way != api.CICMA && (e != api.OK || !slices.Equal(p.Parts, times(1, 0, 1))) {
					t.Errorf("Of(%+v) = %+v, %d", x, p, e)
				}
				if way == api.CICMA {
					refused(t, x, c, api.ErrSide)
				}
			}
		}
	}
}

// faults are what may be wrong in terms, by the codes, in the order of chapter 15.
func faults() []struct {
	code api.Errno
	put  func(x *api.Terms, n int)
	bad  []int
} {
	far := []int{math.MinInt, math.MinInt + 1, math.MaxInt, math.MaxInt - 1, 1 << 62, -1 << 32}
	return []struct {
		code api.Errno
		put  func(x *api.Terms, n int)
		bad  []int
	}{
		{1, func(x *api.Terms, n int) { x.Kind = n }, append([]int{-1, 3, 1 << 32}, far...)},
		{1, func(x *api.Terms, n int) { x.Count = n }, append([]int{-1, 7, 1 << 32}, far...)},
		{1, func(x *api.Terms, n int) { x.Roll = n }, append([]int{-1, 5, 1 << 32}, far...)},
		{1, func(x *api.Terms, n int) { x.Months = n }, append([]int{0, -1, -3, -12, 5, 7, 8, 9, 10, 11, 13, 24, 1<<32 + 3}, far...)},
		{3, func(x *api.Terms, n int) { x.Start = n }, append([]int{0, -1, 3652060, 1<<32 + 738945}, far...)},
		{3, func(x *api.Terms, n int) { x.End = n }, append([]int{0, -1, 3652060, 1<<32 + 738945}, far...)},
		{4, func(x *api.Terms, n int) { x.Start = x.End + n }, []int{0, 1, 2, 31, 366, 1000000}},
		{2, func(x *api.Terms, n int) { x.Money = n }, append([]int{0, -1, -100000, 1000000000000001}, far...)},
		{2, func(x *api.Terms, n int) { x.Rate = n }, append([]int{-1, -500, 1000001}, far...)},
		{2, func(x *api.Terms, n int) { x.Money, x.Rate = 1000000000000000, n }, []int{9001, 18447, 1000000}},
	}
}

// TestMayNot is of P17.2: terms that may not be, of any sort, by each of Check's codes, of two faults the first one's, and ahead of days that don't roll.
func TestMayNot(t *testing.T) {
	x := loan(number(2024, 1, 15), number(2025, 2, 20), 3)
	x.Roll, x.Count = api.LNext, api.CICMA
	cals := []api.Cal{{}, weekends(), bank(), off(closed(x.Start, x.Start+500))}
	for i, f := range faults() {
		for _, n := range f.bad {
			one := x
			f.put(&one, n)
			if e := terms.Check(one); e != f.code {
				t.Fatalf("Check(%+v) = %d", one, e)
			}
			for _, c := range cals {
				refused(t, one, c, f.code)
			}
		}
		for _, g := range faults()[i+1:] {
			both := x
			g.put(&both, g.bad[0])
			f.put(&both, f.bad[0])
			refused(t, both, weekends(), f.code)
		}
	}
	for _, c := range cals {
		refused(t, api.Terms{}, c, api.ErrArg)
		refused(t, api.Terms{Months: 1}, c, api.ErrDay)
		refused(t, api.Terms{Months: 1, Start: 5, End: 5}, c, api.ErrOrder)
		refused(t, api.Terms{Months: 1, Start: 5, End: 6}, c, api.ErrBound)
	}
}

// TestTooMany is of P17.1 and P17.2: just 1200 periods are a plan; more of them, or more than 1202 steps, are ErrBound, ahead of days that don't roll.
func TestTooMany(t *testing.T) {
	start := number(1900, 1, 1)
	for _, w := range []struct {
		many, off int
		long      bool
		code      api.Errno
	}{{1199, 0, false, 0}, {1200, -1, false, 0}, {1200, 0, false, 0}, {1200, 0, true, 0}, {1200, 1, false, 2}, {1200, 1, true, 0}, {1201, -1, true, 0}, {1201, -1, false, 2}, {1201, 0, true, 2}, {1201, 1, true, 2}, {1300, 0, false, 2}, {5000, 0, true, 2}} {
		x := loan(start, number(1900, 1+w.many, 1)+w.off, 1)
		x.Long = w.long
		for _, x.Back = range []bool{false, true} {
			if x.Back && w.off != 0 {
				continue
			}
			for _, x.Count = range []int{api.CE, api.CAA, api.CICMA} {
				x.Roll = api.LModNext
				if e := held(t, x, weekends()); e != w.code {
					t.Errorf("Of(%+v): %d, not %d", x, e, w.code)
				}
				if e := held(t, x, off(closed(start-100, start+100))); w.code != 0 && e != w.code || w.code == 0 && e != api.ErrNone {
					t.Errorf("Of(%+v): %d, not %d", x, e, w.code)
				}
			}
		}
	}
	refused(t, loan(firstDay, lastDay, 12), weekends(), api.ErrBound)
	refused(t, loan(firstDay, lastDay, 1), off(closed(firstDay, 500)), api.ErrBound)
}

// ways are all ways to count, none of them by periods.
func ways() []int {
	return []int{api.CUS, api.CE, api.CISDA, api.CA360, api.CA365, api.CAA}
}

// everyCount holds that terms are refused by a code by all ways to count.
func everyCount(t *testing.T, x api.Terms, c api.Cal, code api.Errno) {
	t.Helper()
	for x.Count = range 7 {
		held(t, x, c)
		refused(t, x, c, code)
	}
}

// TestDayThatDoesNotRoll is of P17.2: too many days off in a row, at the first, an inner, and the last day, and the first and the last days of all.
func TestDayThatDoesNotRoll(t *testing.T) {
	x := loan(number(2024, 1, 15), number(2025, 1, 15), 3)
	days, _ := dates.Of(x)
	for _, n := range days {
		for _, way := range []int{api.LNext, api.LModNext} {
			x.Roll = way
			everyCount(t, x, off(closed(n, n+60)), api.ErrNone)
			if e := held(t, x, off(closed(n+1, n+61))); e != api.OK {
				t.Error(e)
			}
			x.Count = api.CE
			if e := held(t, x, off(closed(n, n+59))); e != api.OK {
				t.Error(e)
			}
		}
		for _, way := range []int{api.LPrev, api.LModPrev} {
			x.Roll = way
			everyCount(t, x, off(closed(n-60, n)), api.ErrNone)
			x.Count = api.CE
			if e := held(t, x, off(closed(n-59, n))); e != api.OK {
				t.Error(e)
			}
		}
		x.Roll, x.Count = api.LNone, api.CICMA
		if e := held(t, x, off(closed(n-100, n+100))); e != api.OK {
			t.Error(e)
		}
	}
	// The last days of all, and the first ones.
	x = loan(lastDay-400, lastDay-3, 1)
	x.Roll = api.LNext
	everyCount(t, x, off(closed(lastDay-10, lastDay)), api.ErrDay)
	x.Roll = api.LModNext
	everyCount(t, x, off(closed(lastDay-10, lastDay)), api.ErrDay)
	x = loan(3, 400, 1)
	x.Roll = api.LPrev
	everyCount(t, x, off(closed(firstDay, 10)), api.ErrDay)
	x.Roll = api.LModPrev
	everyCount(t, x, off(closed(firstDay, 10)), api.ErrDay)
}

// TestFirstDayThatDoesNotRoll is of P17.2: of more than one day that doesn't roll the first one's code.
func TestFirstDayThatDoesNotRoll(t *testing.T) {
	// Behind a day all are off to the 61st one, and those at the end of all.
	x := loan(lastDay-500, lastDay-3, 6)
	days, _ := dates.Of(x)
	ends := closed(lastDay-10, lastDay)
	for _, n := range days[:len(days)-1] {
		x.Roll = api.LNext
		everyCount(t, x, off(closed(n, n+60), ends), api.ErrNone)
	}
	everyCount(t, x, off(ends), api.ErrDay)
	// And ahead of a day, and those at the beginning of all.
	x = loan(3, 500, 6)
	x.Roll = api.LPrev
	days, _ = dates.Of(x)
	begins := closed(firstDay, 10)
	for _, n := range days[1:] {
		everyCount(t, x, off(closed(n-60, n), begins), api.ErrDay)
		everyCount(t, x, off(closed(n-60, n)), api.ErrNone)
	}
}

// onlyRefs holds that terms are refused by a code by the way by periods, and by no other one.
func onlyRefs(t *testing.T, x api.Terms, c api.Cal, code api.Errno) {
	t.Helper()
	for _, x.Count = range ways() {
		if e := held(t, x, c); e != api.OK {
			t.Errorf("Of(%+v): %d", x, e)
		}
	}
	x.Count = api.CICMA
	held(t, x, c)
	refused(t, x, c, code)
}

// TestStepThatDoesNotRoll is of P17.2: a step that no day is told by, beyond the loan or left out, doesn't roll, though all days do.
func TestStepThatDoesNotRoll(t *testing.T) {
	// Beyond the last day.
	x := loan(number(2024, 1, 15), number(2024, 9, 20), 3)
	beyond := number(2024, 10, 15)
	for _, x.Roll = range []int{api.LNext, api.LModNext} {
		onlyRefs(t, x, off(closed(beyond, beyond+60)), api.ErrNone)
		x.Count = api.CICMA
		if e := held(t, x, off(closed(beyond, beyond+59))); e != api.OK {
			t.Error(e)
		}
	}
	// Ahead of the first one.
	x = loan(number(2024, 1, 15), number(2024, 9, 20), 3)
	x.Back = true
	ahead := number(2023, 12, 20)
	for _, x.Roll = range []int{api.LPrev, api.LModPrev} {
		onlyRefs(t, x, off(closed(ahead-60, ahead)), api.ErrNone)
	}
	// Left out.
	x = loan(number(2024, 1, 15), number(2024, 9, 20), 3)
	x.Long, x.Roll = true, api.LNext
	left := number(2024, 7, 15)
	onlyRefs(t, x, off(closed(left, left+60)), api.ErrNone)
	x.Long = false
	everyCount(t, x, off(closed(left, left+60)), api.ErrNone)
	// Beyond the loan, at the ends of all days.
	x = loan(lastDay-100, lastDay-45, 1)
	x.Roll = api.LNext
	grid, _ := dates.Grid(x)
	last := grid[len(grid)-1]
	if last <= x.End {
		t.Fatal(shown(grid))
	}
	onlyRefs(t, x, off(closed(last, lastDay)), api.ErrDay)
	x = loan(45, 100, 1)
	x.Back, x.Roll = true, api.LPrev
	grid, _ = dates.Grid(x)
	if grid[0] >= x.Start {
		t.Fatal(shown(grid))
	}
	onlyRefs(t, x, off(closed(firstDay, grid[0])), api.ErrDay)
}

// TestFirstStepThatDoesNotRoll is of P17.2: where the step left out and the one beyond the loan don't roll, it is the code of the earlier one.
func TestFirstStepThatDoesNotRoll(t *testing.T) {
	x := loan(lastDay-15-730, lastDay-200, 12)
	x.Long, x.Roll = true, api.LNext
	grid, _ := dates.Grid(x)
	if len(grid) != 3 {
		t.Fatal(shown(grid))
	}
	left, beyond := closed(grid[1], grid[1]+60), closed(grid[2], lastDay)
	onlyRefs(t, x, off(left, beyond), api.ErrNone)
	onlyRefs(t, x, off(left), api.ErrNone)
	onlyRefs(t, x, off(beyond), api.ErrDay)
	x = loan(200, 15+730, 12)
	x.Long, x.Back, x.Roll = true, true, api.LPrev
	grid, _ = dates.Grid(x)
	if len(grid) != 3 {
		t.Fatal(shown(grid))
	}
	beyond, left = closed(firstDay, grid[0]), closed(grid[1]-60, grid[1])
	onlyRefs(t, x, off(left, beyond), api.ErrDay)
	onlyRefs(t, x, off(left), api.ErrNone)
	onlyRefs(t, x, off(beyond), api.ErrDay)
}

// TestPart is of P17.2: a period whose part the way by periods doesn't tell, as no step stands beyond the loan, or all of them roll to the same day.
func TestPart(t *testing.T) {
	// The first and the last days of all: the step beyond is no day.
	x := loan(number(9999, 10, 15), lastDay, 1)
	onlyRefs(t, x, api.Cal{}, api.ErrSide)
	onlyRefs(t, loan(number(9999, 12, 1), lastDay, 1), api.Cal{}, api.ErrSide)
	onlyRefs(t, loan(number(9998, 1, 15), lastDay, 12), weekends(), api.ErrSide)
	x = loan(firstDay, number(1, 4, 15), 1)
	x.Back = true
	onlyRefs(t, x, api.Cal{}, api.ErrSide)
	x = loan(5, 20, 1)
	x.Back = true
	onlyRefs(t, x, api.Cal{}, api.ErrSide)
	// The first ones of more periods than one.
	x = loan(2, number(3, 12, 31), 12)
	x.Back = true
	onlyRefs(t, x, api.Cal{}, api.ErrSide)
	x.Long = true
	onlyRefs(t, x, api.Cal{}, api.ErrSide)
	// Where the last step is as late as the end, all is told; and where both roll to the same day.
	for _, x := range []api.Terms{loan(number(9999, 10, 31), lastDay, 1), loan(number(9998, 12, 31), lastDay, 12)} {
		if x.Count = api.CICMA; held(t, x, weekends()) != api.OK {
			t.Errorf("%+v", x)
		}
	}
	x = loan(number(9999, 10, 15), lastDay, 1)
	x.Count, x.Roll = api.CICMA, api.LPrev
	for from := 15; from <= 20; from++ {
		code := api.OK
		if from > 16 {
			code = api.ErrSide
		}
		if e := held(t, x, off(closed(number(9999, 12, from), lastDay))); e != code {
			t.Error(from, e)
		}
	}
}

// TestCodesInOrder is of P17.2: a day's code ahead of a step's, a step's ahead of a part's.
func TestCodesInOrder(t *testing.T) {
	// The step ahead of the loan is too far behind days off, and so is a day within: that one's code, though the step is earlier.
	x := loan(20, 15+730, 6)
	x.Back, x.Roll, x.Count = true, api.LPrev, api.CICMA
	grid, _ := dates.Grid(x)
	days, _ := dates.Of(x)
	if grid[0] >= x.Start {
		t.Fatal(shown(grid))
	}
	step, day := closed(firstDay, grid[0]), closed(days[2]-60, days[2])
	refused(t, x, off(step), api.ErrDay)
	refused(t, x, off(day), api.ErrNone)
	refused(t, x, off(step, day), api.ErrNone)
	held(t, x, off(step, day))
	// A day, or a step left out, that doesn't roll, and the step beyond the loan that is no day.
	x = loan(number(9999, 1, 15), lastDay-3, 3)
	x.Roll, x.Count = api.LNext, api.CICMA
	refused(t, x, api.Cal{}, api.ErrSide)
	refused(t, x, off(closed(lastDay-5, lastDay)), api.ErrDay)
	refused(t, x, off(closed(number(9999, 7, 15), number(9999, 9, 13))), api.ErrNone)
	refused(t, x, off(closed(number(9999, 7, 15), number(9999, 9, 12))), api.ErrSide)
	x.Long = true
	refused(t, x, off(closed(number(9999, 10, 15), number(9999, 12, 14))), api.ErrNone)
	refused(t, x, off(closed(number(9999, 10, 15), number(9999, 12, 13))), api.ErrSide)
	refused(t, x, off(closed(number(9999, 10, 15), number(9999, 12, 14)), closed(lastDay-5, lastDay)), api.ErrDay)
}

// someTerms are terms by chance, that may be: of our years, and near the first and the last day.
func someTerms(r *rand.Rand) api.Terms {
	start := number(2000, 1, 1) + r.Intn(15000)
	length := 1 + r.Intn(1500)
	switch r.Intn(6) {
	case 0:
		start = firstDay + r.Intn(100)
	case 1:
		start = lastDay - length - r.Intn(100)
	case 2:
		start = number(2000, 1+r.Intn(500), 0) - r.Intn(2)
	case 3:
		length = 1 + r.Intn(40)
	}
	x := loan(start, min(start+length, lastDay), apart()[r.Intn(6)])
	x.Kind, x.Count, x.Roll = r.Intn(3), r.Intn(7), r.Intn(5)
	if r.Intn(3) == 0 {
		x.Count = api.CICMA
	}
	x.Back, x.Long, x.Eom = r.Intn(2) == 0, r.Intn(2) == 0, r.Intn(2) == 0
	return x
}

// someCal is a calendar by chance, that may be, whose days lie around those of a loan, many of them in runs.
func someCal(r *rand.Rand, x api.Terms) api.Cal {
	var c api.Cal
	for i := range c.Off {
		c.Off[i] = r.Intn(4) == 0 && i != 2
	}
	for range r.Intn(4) {
		c.Rules = append(c.Rules, someRules()[r.Intn(len(someRules()))])
	}
	var runs [][]int
	for range r.Intn(6) {
		from := x.Start - 100 + r.Intn(x.End-x.Start+200)
		runs = append(runs, closed(from, from+r.Intn(80)))
	}
	// And at the first or the last days of all, if the loan is near to these.
	if r.Intn(3) == 0 && x.Start < 200 {
		runs = append(runs, closed(firstDay, r.Intn(130)))
	}
	if r.Intn(3) == 0 && x.End > lastDay-200 {
		runs = append(runs, closed(lastDay-r.Intn(130), lastDay))
	}
	c.Days = off(runs...).Days
	return c
}

// TestByChance is of P17.1, P17.2 and P17.3: terms of all sorts by calendars of all sorts against the chapter's words.
func TestByChance(t *testing.T) {
	r := rand.New(rand.NewSource(171))
	met := map[api.Errno]int{}
	for range 6000 {
		x := someTerms(r)
		c := someCal(r, x)
		if !cal.May(c) {
			t.Fatalf("%+v", c)
		}
		met[held(t, x, c)]++
	}
	if met[api.OK] < 2000 || met[api.ErrDay] < 100 || met[api.ErrNone] < 100 || met[api.ErrSide] < 50 || len(met) != 4 {
		t.Error(met)
	}
}

// TestTurnsNothing is of P17.1: money, rate and kind turn nothing.
func TestTurnsNothing(t *testing.T) {
	r := rand.New(rand.NewSource(172))
	for range 200 {
		x := someTerms(r)
		c := someCal(r, x)
		p, e := Of(x, c)
		for x.Kind = range 3 {
			x.Money, x.Rate = 1+r.Intn(9000000000000), r.Intn(1000001)
			plans(t, x, c, p, e)
			x.Money, x.Rate = 1000000000000000, 9000
			plans(t, x, c, p, e)
		}
	}
}

// question is what is asked, and what was answered.
type question struct {
	terms api.Terms
	cal   api.Cal
	plan  api.Plan
	code  api.Errno
}

// questions are calls by chance, some of them of terms that may not be.
func questions(seed int64, many int) []question {
	r := rand.New(rand.NewSource(seed))
	all := make([]question, many)
	for i := range all {
		x := someTerms(r)
		c := someCal(r, x)
		if r.Intn(8) == 0 {
			f := faults()[r.Intn(len(faults()))]
			f.put(&x, f.bad[r.Intn(len(f.bad))])
		}
		p, e := Of(x, c)
		all[i] = question{x, c, p, e}
	}
	return all
}

// held holds what is answered now against what was answered ahead.
func (q question) held(t *testing.T) {
	t.Helper()
	plans(t, q.terms, q.cal, q.plan, q.code)
}

// TestAnyOrder is of R4: nothing is kept between calls, so that they answer alike in any order.
func TestAnyOrder(t *testing.T) {
	all := questions(173, 800)
	r := rand.New(rand.NewSource(174))
	for range 3 {
		for _, i := range r.Perm(len(all)) {
			all[i].held(t)
			all[i].held(t)
		}
	}
}

// TestAtOnce is of R4: calls beside each other share nothing.
func TestAtOnce(t *testing.T) {
	shared := questions(175, 200)
	var all sync.WaitGroup
	for range 8 {
		all.Go(func() {
			for _, q := range shared {
				q.held(t)
			}
		})
	}
	all.Wait()
}

// TestHandedIn is of R3: a calendar that is handed in isn't written into, nor is what lies behind the ends of its lists, and what is written into it later turns no plan.
func TestHandedIn(t *testing.T) {
	for _, q := range questions(176, 400) {
		behind := api.Cal{Off: q.cal.Off, Rules: append(slices.Clone(q.cal.Rules), api.Rule{Kind: 77}, api.Rule{Kind: 78}), Days: append(slices.Clone(q.cal.Days), -7, -8)}
		c := api.Cal{Off: q.cal.Off, Rules: behind.Rules[:len(q.cal.Rules)], Days: behind.Days[:len(q.cal.Days)]}
		before := copiedCal(behind)
		p, e := Of(q.terms, c)
		if !same(p, q.plan) || e != q.code {
			t.Fatalf("Of(%+v): %+v, %d", q.terms, p, e)
		}
		if !slices.Equal(behind.Rules, before.Rules) || !slices.Equal(behind.Days, before.Days) || c.Off != before.Off {
			t.Fatalf("Of(%+v) writes into %+v", q.terms, before)
		}
		for i := range behind.Days {
			behind.Days[i] = -9
		}
		for i := range behind.Rules {
			behind.Rules[i] = api.Rule{Kind: 79}
		}
		if !same(p, q.plan) {
			t.Fatalf("Of(%+v) = %+v hangs on its calendar", q.terms, p)
		}
	}
}

// spoil writes over a list, to the end of its memory.
func spoil[T any](list []T, with T) {
	list = list[:cap(list)]
	for i := range list {
		list[i] = with
	}
}

// TestOwnMemory is of R3: what was answered isn't turned by a later call, and no later call by what is done to it.
func TestOwnMemory(t *testing.T) {
	all := questions(177, 400)
	kept := make([]question, len(all))
	for i, q := range all {
		kept[i] = q
		kept[i].plan = copied(q.plan)
	}
	for _, q := range all {
		_, _ = Of(q.terms, q.cal)
	}
	for i, q := range all {
		if !same(q.plan, kept[i].plan) {
			t.Fatalf("%+v: an answer is turned", q.terms)
		}
	}
	for i, q := range all {
		spoil(q.plan.Days, -7)
		spoil(q.plan.Rolled, -7)
		spoil(q.plan.Parts, api.Ratio{N: -7})
		spoil(q.plan.Side.Refs, -7)
		kept[i].held(t)
	}
	for _, q := range kept {
		q.held(t)
	}
}

// TestListsApart is of R3: no two lists of a plan share memory, where nothing is rolled too.
func TestListsApart(t *testing.T) {
	for way := range 7 {
		for roll := range 5 {
			x := loan(number(2024, 1, 15), number(2025, 2, 20), 3)
			x.Count, x.Roll = way, roll
			for _, write := range []func(p *api.Plan){
				func(p *api.Plan) { spoil(p.Days, -7); p.Days = nil },
				func(p *api.Plan) { spoil(p.Rolled, -7); p.Rolled = nil },
				func(p *api.Plan) { spoil(p.Parts, api.Ratio{N: -7}); p.Parts = nil },
				func(p *api.Plan) { spoil(p.Side.Refs, -7); p.Side.Refs = nil },
			} {
				p, _ := Of(x, weekends())
				want := copied(p)
				write(&p)
				for _, lists := range [][2][]int{{p.Days, want.Days}, {p.Rolled, want.Rolled}, {p.Side.Refs, want.Side.Refs}} {
					if lists[0] != nil && !slices.Equal(lists[0], lists[1]) {
						t.Errorf("Of(%+v): lists share memory: %s, %s", x, shown(lists[0]), shown(lists[1]))
					}
				}
				if p.Parts != nil && !slices.Equal(p.Parts, want.Parts) {
					t.Errorf("Of(%+v): %v", x, p.Parts)
				}
			}
		}
	}
}

// TestSteps is of the chapter's section on ways: steps are gone through until one refuses, and what is laid then is nothing.
func TestSteps(t *testing.T) {
	x := loan(number(9999, 1, 15), lastDay-3, 3)
	x.Roll, x.Count = api.LNext, api.CICMA
	d := draft{terms: x}
	var codes []api.Errno
	for _, put := range steps() {
		codes = append(codes, put(&d))
	}
	if !slices.Equal(codes, []api.Errno{0, 0, 0, 0, api.ErrSide}) || len(d.plan.Parts) == 0 {
		t.Error(codes, d.plan)
	}
	if p, e := lay(x, api.Cal{}); !same(p, api.Plan{}) || e != api.ErrSide {
		t.Error(p, e)
	}
	// No step behind one that refuses is gone to: none of them would stand it.
	if p, e := lay(api.Terms{}, api.Cal{}); !same(p, api.Plan{}) || e != api.ErrArg {
		t.Error(p, e)
	}
}

// TestExample is the chapter's.
func TestExample(t *testing.T) {
	told{each: 3, way: api.CA360, roll: api.LNext, start: "2024-01-15", end: "2024-07-15", rolled: "2024-01-15 2024-04-15 2024-07-15", parts: times(2, 91, 360)}.held(t, weekends())
}
