package dates

import (
	"math"
	"math/rand"
	"slices"
	"strings"
	"sync"
	"testing"
	"time"

	"demurrage/api"
	"demurrage/months"
	"demurrage/terms"
)

const (
	firstDay = 1
	lastDay  = 3652059
	mostGrid = 1202
	mostDays = 1201
)

// apart are the months that a period may have.
func apart() []int { return []int{1, 2, 3, 4, 6, 12} }

// at is a day as the library's calendar knows it, which goes by the Gregorian rule for all years too.
func at(n int) time.Time { return time.Date(1, time.January, n, 0, 0, 0, 0, time.UTC) }

// day0 is the day ahead of the first one.
var day0 = at(0).Unix() / 86400

// number is the number of a day of the library's calendar.
func number(y, m, d int) int {
	return int(time.Date(y, time.Month(m), d, 0, 0, 0, 0, time.UTC).Unix()/86400 - day0)
}

// read is the number of a day such as 2024-02-29.
func read(t *testing.T, text string) int {
	t.Helper()
	day, err := time.Parse("2006-01-02", text)
	if err != nil {
		t.Fatal(err)
	}
	return int(day.Unix()/86400 - day0)
}

// list are the numbers of such days, a blank between each two.
func list(t *testing.T, text string) []int {
	t.Helper()
	var days []int
	for _, word := range strings.Fields(text) {
		days = append(days, read(t, word))
	}
	return days
}

// shown are days as a text, for a test that fails.
func shown(days []int) string {
	var words []string
	for i, n := range days {
		if len(days) > 12 && i == 6 {
			words = append(words, "..")
		}
		if i < 6 || i >= len(days)-6 {
			words = append(words, at(n).Format("2006-01-02"))
		}
	}
	return strings.Join(words, " ")
}

// loan are terms that may be, if their days may.
func loan(start, end, each int) api.Terms {
	return api.Terms{Money: 100000, Rate: 500, Start: start, End: end, Months: each}
}

// from are an anchor and the end that isn't it as terms, either way round.
func from(anchor, other, each int) api.Terms {
	x := loan(min(anchor, other), max(anchor, other), each)
	x.Back = anchor > other
	return x
}

// month is which one of all months a day is in.
func month(n int) int { return at(n).Year()*12 + int(at(n).Month()) - 1 }

// anchor is the day that steps are told from, and the way they go.
func anchor(x api.Terms) (int, int) {
	if x.Back {
		return x.End, -1
	}
	return x.Start, 1
}

// step is the k-th step of terms, by the library's calendar, and whether it is a day: the day of the month, as far as the month has it.
func step(x api.Terms, k int) (int, bool) {
	n, way := anchor(x)
	there := month(n) + way*k*x.Months
	if there < 12 || there >= 10000*12 {
		return 0, false
	}
	longest := time.Date(there/12, time.Month(there%12+2), 0, 0, 0, 0, 0, time.UTC).Day()
	d := min(at(n).Day(), longest)
	if x.Eom && at(n+1).Day() == 1 {
		d = longest
	}
	return number(there/12, there%12+1, d), true
}

// isStep: is a day one of the steps, whichever?
func isStep(x api.Terms, day int) bool {
	n, way := anchor(x)
	off := way * (month(day) - month(n))
	if off < 0 || off%x.Months != 0 {
		return false
	}
	there, is := step(x, off/x.Months)
	return is && there == day
}

// wantedGrid is P16.1, word by word.
func wantedGrid(x api.Terms) ([]int, api.Errno) {
	if e := terms.Check(x); e != api.OK {
		return nil, e
	}
	grid := []int{}
	for k := 0; ; k++ {
		n, is := step(x, k)
		if is {
			grid = append(grid, n)
		}
		if !is || k > 0 && (n <= x.Start || n >= x.End) {
			break
		}
	}
	slices.Sort(grid)
	if len(grid) > mostGrid {
		return nil, 2
	}
	return grid, 0
}

// wantedDays is P16.2, word by word.
func wantedDays(x api.Terms) ([]int, api.Errno) {
	grid, e := wantedGrid(x)
	if e != 0 {
		return nil, e
	}
	within := slices.DeleteFunc(grid, func(n int) bool { return n <= x.Start || n >= x.End })
	if x.Long && len(within) > 0 {
		switch {
		case x.Back && !isStep(x, x.Start):
			within = slices.Delete(within, 0, 1)
		case !x.Back && !isStep(x, x.End):
			within = slices.Delete(within, len(within)-1, len(within))
		}
	}
	days := append(append([]int{x.Start}, within...), x.End)
	if len(days) > mostDays {
		return nil, 2
	}
	return days, 0
}

// grids holds Grid against days and a code.
func grids(t *testing.T, x api.Terms, want []int, code api.Errno) {
	t.Helper()
	if got, e := Grid(x); !slices.Equal(got, want) || e != code {
		t.Errorf("Grid(%+v) of %s = %s, %d, not %s, %d", x, shown([]int{x.Start, x.End}), shown(got), e, shown(want), code)
	}
}

// days holds Of against days and a code.
func days(t *testing.T, x api.Terms, want []int, code api.Errno) {
	t.Helper()
	if got, e := Of(x); !slices.Equal(got, want) || e != code {
		t.Errorf("Of(%+v) of %s = %s, %d, not %s, %d", x, shown([]int{x.Start, x.End}), shown(got), e, shown(want), code)
	}
}

// held holds both calls against the words of the chapter, and what they answer against what follows.
func held(t *testing.T, x api.Terms) {
	t.Helper()
	for _, x.Long = range []bool{false, true} {
		want, code := wantedGrid(x)
		grids(t, x, want, code)
		want, code = wantedDays(x)
		days(t, x, want, code)
		follows(t, x)
	}
}

// everyWay holds terms both ways round, with Eom told and not, with a long stub and a short one.
func everyWay(t *testing.T, x api.Terms) {
	t.Helper()
	for _, x.Back = range []bool{false, true} {
		for _, x.Eom = range []bool{false, true} {
			held(t, x)
		}
	}
}

// follows holds what is answered against P16.3.
func follows(t *testing.T, x api.Terms) {
	t.Helper()
	got, e := Of(x)
	if e != api.OK {
		return
	}
	if len(got) < 2 || got[0] != x.Start || got[len(got)-1] != x.End {
		t.Fatalf("Of(%+v) = %s", x, shown(got))
	}
	others := 0
	for i, n := range got[1:] {
		if n <= got[i] {
			t.Fatalf("Of(%+v) = %s: it doesn't rise", x, shown(got))
		}
		if n != x.End && !isStep(x, n) {
			t.Fatalf("Of(%+v) = %s: %s is no step", x, shown(got), shown([]int{n}))
		}
		if month(n)-month(got[i]) != x.Months || !isStep(x, n) || !isStep(x, got[i]) {
			others++
		}
	}
	other := x.End
	if x.Back {
		other = x.Start
	}
	if stub := !isStep(x, other); others > 1 || others == 1 != stub {
		t.Fatalf("Of(%+v) = %s: %d periods are of another length", x, shown(got), others)
	}
}

// TestConstants are those that the document tells.
func TestConstants(t *testing.T) {
	if api.MinDay != firstDay || api.MaxDay != lastDay || api.MaxRows != mostDays-1 || number(9999, 12, 31) != lastDay || number(1, 1, 1) != firstDay {
		t.Error(api.MinDay, api.MaxDay, api.MaxRows)
	}
	if api.OK != 0 || api.ErrArg != 1 || api.ErrBound != 2 || api.ErrDay != 3 || api.ErrOrder != 4 {
		t.Error(api.OK, api.ErrArg, api.ErrBound, api.ErrDay, api.ErrOrder)
	}
}

// anchors are days at which months are cut, and others.
func anchors() []int {
	return []int{
		number(2024, 1, 15), number(2024, 1, 28), number(2024, 1, 29), number(2024, 1, 30), number(2024, 1, 31), number(2023, 1, 29), number(2023, 1, 30), number(2023, 1, 31),
		number(2023, 2, 27), number(2023, 2, 28), number(2024, 2, 28), number(2024, 2, 29), number(2023, 3, 1), number(2024, 3, 1), number(2023, 3, 29), number(2024, 3, 30), number(2024, 3, 31),
		number(2024, 4, 29), number(2024, 4, 30), number(2024, 6, 30), number(2024, 8, 30), number(2024, 8, 31), number(2024, 11, 29), number(2024, 11, 30), number(2024, 12, 30), number(2024, 12, 31),
		number(1900, 2, 28), number(2000, 2, 29), number(2100, 2, 28), number(1999, 12, 31), number(2000, 1, 1),
	}
}

// TestAroundSteps is of P16.1 and P16.2: of anchors at either end, the other one at each of the first steps and some days off it.
func TestAroundSteps(t *testing.T) {
	for _, n := range anchors() {
		for _, each := range apart() {
			for k := -8; k <= 8; k++ {
				there, _ := step(loan(n, n, 1), k*each)
				for off := -4; off <= 4; off++ {
					if there+off == n {
						continue
					}
					x := from(n, there+off, each)
					for _, x.Eom = range []bool{false, true} {
						held(t, x)
					}
				}
			}
		}
	}
}

// TestEachLength is of P16.1 and P16.2: loans of 1 day to some years, day by day, all ways.
func TestEachLength(t *testing.T) {
	for _, n := range []int{number(2023, 12, 15), number(2024, 2, 29), number(2022, 8, 31), number(2023, 2, 28)} {
		for length := 1; length <= 800; length++ {
			for _, each := range apart() {
				everyWay(t, loan(n, n+length, each))
			}
		}
	}
}

// told are loans as texts: the anchor and the other end, what is told, the grid, and the days with a short stub and with a long one (nothing, if they are the same).
type told struct {
	anchor, other, grid, short, long string
	each                             int
	eom                              bool
}

// held holds both calls against what is told.
func (w told) held(t *testing.T) {
	t.Helper()
	x := from(read(t, w.anchor), read(t, w.other), w.each)
	x.Eom = w.eom
	grids(t, x, list(t, w.grid), api.OK)
	days(t, x, list(t, w.short), api.OK)
	if x.Long = true; w.long == "" {
		w.long = w.short
	}
	grids(t, x, list(t, w.grid), api.OK)
	days(t, x, list(t, w.long), api.OK)
	held(t, x)
}

// TestFromAnchor is of P16.1 and P16.2: each step is moved from the anchor, not from the step ahead, with ends of months that stay and that don't.
func TestFromAnchor(t *testing.T) {
	for _, w := range []told{
		{each: 1, anchor: "2023-01-31", other: "2023-06-30", grid: "2023-01-31 2023-02-28 2023-03-31 2023-04-30 2023-05-31 2023-06-30", short: "2023-01-31 2023-02-28 2023-03-31 2023-04-30 2023-05-31 2023-06-30"},
		{each: 1, anchor: "2024-01-30", other: "2024-04-30", grid: "2024-01-30 2024-02-29 2024-03-30 2024-04-30", short: "2024-01-30 2024-02-29 2024-03-30 2024-04-30", eom: true},
		{each: 1, anchor: "2023-01-29", other: "2023-03-29", grid: "2023-01-29 2023-02-28 2023-03-29", short: "2023-01-29 2023-02-28 2023-03-29", eom: true},
		{each: 1, anchor: "2023-02-28", other: "2023-05-28", grid: "2023-02-28 2023-03-28 2023-04-28 2023-05-28", short: "2023-02-28 2023-03-28 2023-04-28 2023-05-28"},
		{each: 1, anchor: "2023-02-28", other: "2023-05-31", grid: "2023-02-28 2023-03-31 2023-04-30 2023-05-31", short: "2023-02-28 2023-03-31 2023-04-30 2023-05-31", eom: true},
		{each: 1, anchor: "2023-02-28", other: "2023-05-28", grid: "2023-02-28 2023-03-31 2023-04-30 2023-05-31", short: "2023-02-28 2023-03-31 2023-04-30 2023-05-28", long: "2023-02-28 2023-03-31 2023-05-28", eom: true},
		{each: 12, anchor: "2024-02-29", other: "2028-02-29", grid: "2024-02-29 2025-02-28 2026-02-28 2027-02-28 2028-02-29", short: "2024-02-29 2025-02-28 2026-02-28 2027-02-28 2028-02-29"},
		{each: 12, anchor: "2023-02-28", other: "2025-02-28", grid: "2023-02-28 2024-02-29 2025-02-28", short: "2023-02-28 2024-02-29 2025-02-28", eom: true},
		{each: 12, anchor: "2023-02-28", other: "2025-02-28", grid: "2023-02-28 2024-02-28 2025-02-28", short: "2023-02-28 2024-02-28 2025-02-28"},
		{each: 12, anchor: "2024-02-28", other: "2026-02-28", grid: "2024-02-28 2025-02-28 2026-02-28", short: "2024-02-28 2025-02-28 2026-02-28", eom: true},
		{each: 6, anchor: "2024-08-31", other: "2026-02-28", grid: "2024-08-31 2025-02-28 2025-08-31 2026-02-28", short: "2024-08-31 2025-02-28 2025-08-31 2026-02-28"},
		{each: 2, anchor: "2023-12-30", other: "2024-06-30", grid: "2023-12-30 2024-02-29 2024-04-30 2024-06-30", short: "2023-12-30 2024-02-29 2024-04-30 2024-06-30"},
		{each: 4, anchor: "2023-10-31", other: "2024-10-30", grid: "2023-10-31 2024-02-29 2024-06-30 2024-10-31", short: "2023-10-31 2024-02-29 2024-06-30 2024-10-30", long: "2023-10-31 2024-02-29 2024-10-30"},
		{each: 3, anchor: "2024-11-30", other: "2025-08-31", grid: "2024-11-30 2025-02-28 2025-05-31 2025-08-31", short: "2024-11-30 2025-02-28 2025-05-31 2025-08-31", eom: true},
		{each: 3, anchor: "2024-11-30", other: "2025-08-30", grid: "2024-11-30 2025-02-28 2025-05-30 2025-08-30", short: "2024-11-30 2025-02-28 2025-05-30 2025-08-30"},
		{each: 1, anchor: "2023-05-31", other: "2023-01-31", grid: "2023-01-31 2023-02-28 2023-03-31 2023-04-30 2023-05-31", short: "2023-01-31 2023-02-28 2023-03-31 2023-04-30 2023-05-31"},
		{each: 1, anchor: "2024-04-30", other: "2024-01-30", grid: "2024-01-30 2024-02-29 2024-03-30 2024-04-30", short: "2024-01-30 2024-02-29 2024-03-30 2024-04-30"},
		{each: 1, anchor: "2024-04-30", other: "2024-01-30", grid: "2023-12-31 2024-01-31 2024-02-29 2024-03-31 2024-04-30", short: "2024-01-30 2024-01-31 2024-02-29 2024-03-31 2024-04-30", long: "2024-01-30 2024-02-29 2024-03-31 2024-04-30", eom: true},
		{each: 6, anchor: "2024-02-29", other: "2022-08-31", grid: "2022-08-31 2023-02-28 2023-08-31 2024-02-29", short: "2022-08-31 2023-02-28 2023-08-31 2024-02-29", eom: true},
		{each: 6, anchor: "2024-02-29", other: "2022-08-31", grid: "2022-08-29 2023-02-28 2023-08-29 2024-02-29", short: "2022-08-31 2023-02-28 2023-08-29 2024-02-29", long: "2022-08-31 2023-08-29 2024-02-29"},
		{each: 12, anchor: "2024-02-29", other: "2020-02-29", grid: "2020-02-29 2021-02-28 2022-02-28 2023-02-28 2024-02-29", short: "2020-02-29 2021-02-28 2022-02-28 2023-02-28 2024-02-29"},
	} {
		w.held(t)
	}
}

// TestStubs is of P16.1 and P16.2: loans of less than a period, of whole ones, and of a day more and less, either way round.
func TestStubs(t *testing.T) {
	for _, w := range []told{
		// Less than a period: no day between, so that nothing is left out.
		{each: 3, anchor: "2024-01-15", other: "2024-01-16", grid: "2024-01-15 2024-04-15", short: "2024-01-15 2024-01-16"},
		{each: 3, anchor: "2024-01-15", other: "2024-04-14", grid: "2024-01-15 2024-04-15", short: "2024-01-15 2024-04-14"},
		{each: 3, anchor: "2024-04-15", other: "2024-04-14", grid: "2024-01-15 2024-04-15", short: "2024-04-14 2024-04-15"},
		{each: 3, anchor: "2024-04-15", other: "2024-01-16", grid: "2024-01-15 2024-04-15", short: "2024-01-16 2024-04-15"},
		// Just a period.
		{each: 3, anchor: "2024-01-15", other: "2024-04-15", grid: "2024-01-15 2024-04-15", short: "2024-01-15 2024-04-15"},
		{each: 3, anchor: "2024-04-15", other: "2024-01-15", grid: "2024-01-15 2024-04-15", short: "2024-01-15 2024-04-15"},
		// A period and a day: the one day between is left out.
		{each: 3, anchor: "2024-01-15", other: "2024-04-16", grid: "2024-01-15 2024-04-15 2024-07-15", short: "2024-01-15 2024-04-15 2024-04-16", long: "2024-01-15 2024-04-16"},
		{each: 3, anchor: "2024-04-15", other: "2024-01-14", grid: "2023-10-15 2024-01-15 2024-04-15", short: "2024-01-14 2024-01-15 2024-04-15", long: "2024-01-14 2024-04-15"},
		// Whole periods, a day less, and a day more.
		{each: 3, anchor: "2024-01-15", other: "2024-10-15", grid: "2024-01-15 2024-04-15 2024-07-15 2024-10-15", short: "2024-01-15 2024-04-15 2024-07-15 2024-10-15"},
		{each: 3, anchor: "2024-01-15", other: "2024-10-14", grid: "2024-01-15 2024-04-15 2024-07-15 2024-10-15", short: "2024-01-15 2024-04-15 2024-07-15 2024-10-14", long: "2024-01-15 2024-04-15 2024-10-14"},
		{each: 3, anchor: "2024-01-15", other: "2024-10-16", grid: "2024-01-15 2024-04-15 2024-07-15 2024-10-15 2025-01-15", short: "2024-01-15 2024-04-15 2024-07-15 2024-10-15 2024-10-16", long: "2024-01-15 2024-04-15 2024-07-15 2024-10-16"},
		{each: 3, anchor: "2024-10-15", other: "2024-01-15", grid: "2024-01-15 2024-04-15 2024-07-15 2024-10-15", short: "2024-01-15 2024-04-15 2024-07-15 2024-10-15"},
		{each: 3, anchor: "2024-10-15", other: "2024-01-16", grid: "2024-01-15 2024-04-15 2024-07-15 2024-10-15", short: "2024-01-16 2024-04-15 2024-07-15 2024-10-15", long: "2024-01-16 2024-07-15 2024-10-15"},
		{each: 3, anchor: "2024-10-15", other: "2024-01-14", grid: "2023-10-15 2024-01-15 2024-04-15 2024-07-15 2024-10-15", short: "2024-01-14 2024-01-15 2024-04-15 2024-07-15 2024-10-15", long: "2024-01-14 2024-04-15 2024-07-15 2024-10-15"},
		// The other end looks like a step of the anchor, by its day of the month, but months are cut to other days.
		{each: 1, anchor: "2024-01-31", other: "2024-03-30", grid: "2024-01-31 2024-02-29 2024-03-31", short: "2024-01-31 2024-02-29 2024-03-30", long: "2024-01-31 2024-03-30"},
		{each: 1, anchor: "2024-03-30", other: "2024-01-31", grid: "2024-01-30 2024-02-29 2024-03-30", short: "2024-01-31 2024-02-29 2024-03-30", long: "2024-01-31 2024-03-30"},
		{each: 12, anchor: "2023-06-30", other: "2024-12-30", grid: "2023-06-30 2024-06-30 2025-06-30", short: "2023-06-30 2024-06-30 2024-12-30", long: "2023-06-30 2024-12-30"},
	} {
		w.held(t)
	}
}

// TestPeriods is of P16.2: of whole periods Long turns nothing, of a day more or less it leaves just one day out, the one nearest to the end that isn't the anchor.
func TestPeriods(t *testing.T) {
	for _, each := range apart() {
		for many := 1; many <= 25; many++ {
			for _, way := range []int{1, -1} {
				n := number(2024, 5, 20)
				there, _ := step(loan(n, n, 1), way*many*each)
				for off := -1; off <= 1; off++ {
					x := from(n, there+off*way, each)
					short, e := Of(x)
					periods := many + max(off, 0)
					if e != api.OK || len(short) != periods+1 {
						t.Fatalf("Of(%+v) = %s, %d", x, shown(short), e)
					}
					want := slices.Clone(short)
					switch place := len(short) - 2; {
					case off == 0 || periods == 1:
					case way > 0:
						want = slices.Delete(want, place, place+1)
					default:
						want = slices.Delete(want, 1, 2)
					}
					x.Long = true
					days(t, x, want, api.OK)
					grid, e := Grid(x)
					if e != api.OK || len(grid) != periods+1 {
						t.Fatalf("Grid(%+v) = %s, %d", x, shown(grid), e)
					}
				}
			}
		}
	}
}

// TestFirstDays is of P16.1 and P16.2: near the first day of all a step ahead of it is no day.
func TestFirstDays(t *testing.T) {
	for _, w := range []told{
		{each: 1, anchor: "0001-03-15", other: "0001-01-01", grid: "0001-01-15 0001-02-15 0001-03-15", short: "0001-01-01 0001-01-15 0001-02-15 0001-03-15", long: "0001-01-01 0001-02-15 0001-03-15"},
		{each: 1, anchor: "0001-04-01", other: "0001-01-01", grid: "0001-01-01 0001-02-01 0001-03-01 0001-04-01", short: "0001-01-01 0001-02-01 0001-03-01 0001-04-01"},
		{each: 1, anchor: "0001-04-01", other: "0001-01-02", grid: "0001-01-01 0001-02-01 0001-03-01 0001-04-01", short: "0001-01-02 0001-02-01 0001-03-01 0001-04-01", long: "0001-01-02 0001-03-01 0001-04-01"},
		{each: 1, anchor: "0001-02-28", other: "0001-01-31", grid: "0001-01-31 0001-02-28", short: "0001-01-31 0001-02-28", eom: true},
		{each: 1, anchor: "0001-02-28", other: "0001-01-30", grid: "0001-01-31 0001-02-28", short: "0001-01-30 0001-01-31 0001-02-28", long: "0001-01-30 0001-02-28", eom: true},
		{each: 2, anchor: "0001-02-28", other: "0001-01-01", grid: "0001-02-28", short: "0001-01-01 0001-02-28"},
		{each: 1, anchor: "0001-01-02", other: "0001-01-01", grid: "0001-01-02", short: "0001-01-01 0001-01-02"},
		{each: 1, anchor: "0001-01-31", other: "0001-01-01", grid: "0001-01-31", short: "0001-01-01 0001-01-31", eom: true},
		{each: 12, anchor: "0001-12-31", other: "0001-01-01", grid: "0001-12-31", short: "0001-01-01 0001-12-31"},
		{each: 12, anchor: "0002-01-01", other: "0001-01-01", grid: "0001-01-01 0002-01-01", short: "0001-01-01 0002-01-01"},
		{each: 12, anchor: "0003-06-30", other: "0001-02-01", grid: "0001-06-30 0002-06-30 0003-06-30", short: "0001-02-01 0001-06-30 0002-06-30 0003-06-30", long: "0001-02-01 0002-06-30 0003-06-30"},
		{each: 12, anchor: "0002-06-30", other: "0001-06-29", grid: "0001-06-30 0002-06-30", short: "0001-06-29 0001-06-30 0002-06-30", long: "0001-06-29 0002-06-30"},
		{each: 6, anchor: "0001-01-01", other: "0001-07-02", grid: "0001-01-01 0001-07-01 0002-01-01", short: "0001-01-01 0001-07-01 0001-07-02", long: "0001-01-01 0001-07-02"},
	} {
		w.held(t)
	}
	for _, each := range apart() {
		for start := 1; start <= 40; start += 1 + start%3 {
			for end := start + 1; end <= start+500; end += 1 + end/30 {
				everyWay(t, loan(start, end, each))
			}
		}
	}
}

// TestLastDays is of P16.1 and P16.2: near the last day of all a step behind it is no day.
func TestLastDays(t *testing.T) {
	for _, w := range []told{
		{each: 1, anchor: "9999-10-15", other: "9999-12-31", grid: "9999-10-15 9999-11-15 9999-12-15", short: "9999-10-15 9999-11-15 9999-12-15 9999-12-31", long: "9999-10-15 9999-11-15 9999-12-31"},
		{each: 1, anchor: "9999-10-31", other: "9999-12-31", grid: "9999-10-31 9999-11-30 9999-12-31", short: "9999-10-31 9999-11-30 9999-12-31"},
		{each: 1, anchor: "9999-10-31", other: "9999-12-30", grid: "9999-10-31 9999-11-30 9999-12-31", short: "9999-10-31 9999-11-30 9999-12-30", long: "9999-10-31 9999-12-30"},
		{each: 1, anchor: "9999-11-30", other: "9999-12-31", grid: "9999-11-30 9999-12-31", short: "9999-11-30 9999-12-31", eom: true},
		{each: 1, anchor: "9999-11-30", other: "9999-12-31", grid: "9999-11-30 9999-12-30", short: "9999-11-30 9999-12-30 9999-12-31", long: "9999-11-30 9999-12-31"},
		{each: 2, anchor: "9999-11-30", other: "9999-12-31", grid: "9999-11-30", short: "9999-11-30 9999-12-31"},
		{each: 1, anchor: "9999-12-01", other: "9999-12-31", grid: "9999-12-01", short: "9999-12-01 9999-12-31"},
		{each: 1, anchor: "9999-12-30", other: "9999-12-31", grid: "9999-12-30", short: "9999-12-30 9999-12-31", eom: true},
		{each: 12, anchor: "9999-01-01", other: "9999-12-31", grid: "9999-01-01", short: "9999-01-01 9999-12-31"},
		{each: 12, anchor: "9998-12-31", other: "9999-12-31", grid: "9998-12-31 9999-12-31", short: "9998-12-31 9999-12-31"},
		{each: 12, anchor: "9997-06-30", other: "9999-12-31", grid: "9997-06-30 9998-06-30 9999-06-30", short: "9997-06-30 9998-06-30 9999-06-30 9999-12-31", long: "9997-06-30 9998-06-30 9999-12-31"},
		{each: 12, anchor: "9998-06-30", other: "9999-12-31", grid: "9998-06-30 9999-06-30", short: "9998-06-30 9999-06-30 9999-12-31", long: "9998-06-30 9999-12-31"},
		{each: 6, anchor: "9999-12-31", other: "9999-06-29", grid: "9998-12-31 9999-06-30 9999-12-31", short: "9999-06-29 9999-06-30 9999-12-31", long: "9999-06-29 9999-12-31"},
	} {
		w.held(t)
	}
	for _, each := range apart() {
		for end := lastDay; end > lastDay-40; end -= 1 + end%3 {
			for start := end - 1; start >= end-500; start -= 1 + (lastDay-start)/30 {
				everyWay(t, loan(start, end, each))
			}
		}
	}
}

// refused holds that both calls answer a code with nothing beside it, whatever Back, Long and Eom are.
func refused(t *testing.T, x api.Terms, want api.Errno) {
	t.Helper()
	for bits := range 8 {
		x.Back, x.Long, x.Eom = bits&1 == 1, bits&2 == 2, bits&4 == 4
		if got, e := Grid(x); len(got) != 0 || e != want {
			t.Errorf("Grid(%+v) = %s, %d, not %d", x, shown(got), e, want)
		}
		if got, e := Of(x); len(got) != 0 || e != want {
			t.Errorf("Of(%+v) = %s, %d, not %d", x, shown(got), e, want)
		}
	}
}

// faults are what may be wrong in terms, by the codes, in the order of chapter 15.
func faults() []struct {
	code api.Errno
	put  func(x *api.Terms, n int)
	bad  []int
} {
	far := []int{math.MinInt, math.MinInt + 1, math.MaxInt, math.MaxInt - 1, 1 << 62, -1 << 32}
	return []struct {
		code api.Errno
		put  func(x *api.Terms, n int)
		bad  []int
	}{
		{1, func(x *api.Terms, n int) { x.Kind = n }, append([]int{-1, 3, 1 << 32}, far...)},
		{1, func(x *api.Terms, n int) { x.Count = n }, append([]int{-1, 7, 1 << 32}, far...)},
		{1, func(x *api.Terms, n int) { x.Roll = n }, append([]int{-1, 5, 1 << 32}, far...)},
		{1, func(x *api.Terms, n int) { x.Months = n }, append([]int{0, -1, -3, -12, 5, 7, 8, 9, 10, 11, 13, 24, 1<<32 + 3}, far...)},
		{3, func(x *api.Terms, n int) { x.Start = n }, append([]int{0, -1, 3652060, 1<<32 + 738945}, far...)},
		{3, func(x *api.Terms, n int) { x.End = n }, append([]int{0, -1, 3652060, 1<<32 + 738945}, far...)},
		{4, func(x *api.Terms, n int) { x.Start = x.End + n }, []int{0, 1, 2, 31, 366, 1000000}},
		{2, func(x *api.Terms, n int) { x.Money = n }, append([]int{0, -1, -100000, 1000000000000001}, far...)},
		{2, func(x *api.Terms, n int) { x.Rate = n }, append([]int{-1, -500, 1000001}, far...)},
		{2, func(x *api.Terms, n int) { x.Money, x.Rate = 1000000000000000, n }, []int{9001, 18447, 1000000}},
	}
}

// TestMayNot is of P16.1 and P16.2: terms that may not be, by each of Check's codes.
func TestMayNot(t *testing.T) {
	good := loan(number(2024, 1, 15), number(2025, 2, 20), 3)
	for _, f := range faults() {
		for _, n := range f.bad {
			x := good
			f.put(&x, n)
			if e := terms.Check(x); e != f.code {
				t.Fatalf("Check(%+v) = %d", x, e)
			}
			refused(t, x, f.code)
		}
	}
	refused(t, api.Terms{}, api.ErrArg)
	refused(t, api.Terms{Start: 1, End: lastDay}, api.ErrArg)
}

// TestMayNotFirst is of P16.1 and P16.2: of two faults the first one's code, and each ahead of a bound that steps pass.
func TestMayNotFirst(t *testing.T) {
	for i, f := range faults() {
		for _, g := range faults()[i+1:] {
			x := loan(number(2024, 1, 15), number(2025, 2, 20), 3)
			g.put(&x, g.bad[0])
			f.put(&x, f.bad[0])
			refused(t, x, f.code)
		}
		for _, n := range f.bad {
			x := loan(1, lastDay, 1)
			if f.put(&x, n); x.End < x.Start && f.code == 4 {
				x.Start, x.End = lastDay, lastDay-1
			}
			refused(t, x, f.code)
		}
	}
}

// bounded holds how many days the calls tell, or ErrBound for 0.
func bounded(t *testing.T, x api.Terms, grid, short, long int) {
	t.Helper()
	code := func(many int) api.Errno {
		if many == 0 {
			return api.ErrBound
		}
		return api.OK
	}
	for _, x.Long = range []bool{false, true} {
		if got, e := Grid(x); len(got) != grid || e != code(grid) {
			t.Errorf("Grid(%+v): %d, %d, not %d", x, len(got), e, grid)
		}
		want := short
		if x.Long {
			want = long
		}
		if got, e := Of(x); len(got) != want || e != code(want) {
			t.Errorf("Of(%+v): %d, %d, not %d", x, len(got), e, want)
		}
	}
	held(t, x)
}

// TestBounds is of P16.1 and P16.2: of just 1200 periods and 1202 steps, of more and less, of each number of months, either way round.
func TestBounds(t *testing.T) {
	for _, each := range apart() {
		for _, way := range []int{1, -1} {
			for _, eom := range []bool{false, true} {
				n := number(5000, 6, 30)
				for _, w := range []struct{ many, off, grid, short, long int }{
					{1198, 0, 1199, 1199, 1199}, {1198, 1, 1200, 1200, 1199},
					{1199, -1, 1200, 1200, 1199}, {1199, 0, 1200, 1200, 1200}, {1199, 1, 1201, 1201, 1200},
					{1200, -1, 1201, 1201, 1200}, {1200, 0, 1201, 1201, 1201}, {1200, 1, 1202, 0, 1201}, {1200, 2, 1202, 0, 1201}, {1200, 20, 1202, 0, 1201},
					{1201, -20, 1202, 0, 1201}, {1201, -1, 1202, 0, 1201}, {1201, 0, 1202, 0, 0}, {1201, 1, 0, 0, 0}, {1201, 20, 0, 0, 0},
					{1202, -1, 0, 0, 0}, {1202, 0, 0, 0, 0}, {1202, 1, 0, 0, 0}, {1203, 0, 0, 0, 0}, {1300, 0, 0, 0, 0}, {2400, 1, 0, 0, 0},
				} {
					// Days off are told away from the anchor.
					x := api.Terms{Start: n, End: n, Months: 1, Eom: eom}
					there, is := step(x, way*w.many*each)
					if !is {
						continue
					}
					x = from(n, there+way*w.off, each)
					x.Eom = eom
					bounded(t, x, w.grid, w.short, w.long)
				}
			}
		}
	}
}

// TestBoundsAtTheEdge is of P16.1 and P16.2: bounds where the step beyond the loan is no day.
func TestBoundsAtTheEdge(t *testing.T) {
	for _, each := range apart() {
		for _, w := range []struct{ between, grid, short, long int }{
			{1198, 1199, 1200, 1199}, {1199, 1200, 1201, 1200}, {1200, 1201, 0, 1201}, {1201, 1202, 0, 0}, {1202, 0, 0, 0}, {1203, 0, 0, 0}, {1500, 0, 0, 0},
		} {
			// So many months ahead of the last one of all, and behind the first one, at the middle of the month.
			if last := 9999*12 + 11 - w.between*each; last >= 12 {
				bounded(t, from(number(last/12, last%12+1, 15), lastDay, each), w.grid, w.short, w.long)
			}
			if first := 12 + w.between*each; first < 10000*12 {
				bounded(t, from(number(first/12, first%12+1, 15), firstDay, each), w.grid, w.short, w.long)
			}
		}
	}
}

// TestAllDays is of P16.1 and P16.2: loans of all days, and of nearly all.
func TestAllDays(t *testing.T) {
	for _, each := range apart() {
		for _, x := range []api.Terms{loan(1, lastDay, each), loan(2, lastDay, each), loan(1, lastDay-1, each), loan(31, lastDay-30, each)} {
			refused(t, x, api.ErrBound)
		}
	}
	for _, years := range []int{1198, 1199, 1200, 1201, 1202, 9997} {
		for off := -1; off <= 1; off++ {
			everyWay(t, loan(number(1, 1, 31), number(1+years, 1, 31)+off, 12))
			everyWay(t, loan(number(9999-years, 2, 28), number(9999, 2, 28)+off, 12))
		}
	}
}

// someTerms are terms by chance, that may be: short ones and long ones, many with ends near to a step, and near to the bounds of periods.
func someTerms(r *rand.Rand) api.Terms {
	each := apart()[r.Intn(6)]
	n := 1 + r.Intn(lastDay)
	if r.Intn(3) == 0 {
		last := at(n)
		n = max(1, number(last.Year(), int(last.Month())+1, 0)-r.Intn(3))
	}
	many := r.Intn(30)
	switch r.Intn(20) {
	case 0:
		many = 1195 + r.Intn(10)
	case 1:
		many = r.Intn(1300)
	}
	x := api.Terms{Start: n, End: n, Months: 1}
	there, is := step(x, (1-2*r.Intn(2))*many*each)
	if !is {
		there = []int{1, lastDay}[r.Intn(2)]
	}
	if r.Intn(2) == 0 {
		there += r.Intn(7) - 3
	} else {
		there += r.Intn(400) - 200
	}
	if there = min(max(there, 1), lastDay); there == n {
		there = n%lastDay + 1
	}
	x = from(n, there, each)
	if r.Intn(6) == 0 {
		x.Back = !x.Back
	}
	x.Eom, x.Long = r.Intn(2) == 0, r.Intn(2) == 0
	return x
}

// TestByChance is of P16.1, P16.2 and P16.3: terms of all sorts against the chapter's words.
func TestByChance(t *testing.T) {
	r := rand.New(rand.NewSource(161))
	met := map[api.Errno]int{}
	for range 5000 {
		x := someTerms(r)
		held(t, x)
		_, e := Of(x)
		met[e]++
	}
	if met[api.OK] < 3000 || met[api.ErrBound] < 100 || len(met) != 2 {
		t.Error(met)
	}
}

// TestByMove is of P16.1: the k-th step is chapter 5's Move of the anchor.
func TestByMove(t *testing.T) {
	r := rand.New(rand.NewSource(162))
	for range 3000 {
		x := someTerms(r)
		grid, e := Grid(x)
		if e != api.OK {
			continue
		}
		n, way := anchor(x)
		if way < 0 {
			slices.Reverse(grid)
		}
		for k, day := range grid {
			if want, code := months.Move(n, way*k*x.Months, x.Eom); day != want || code != api.OK {
				t.Fatalf("Grid(%+v): step %d is %d, not %d, %d", x, k, day, want, code)
			}
		}
	}
}

// TestTurnsNothing is of P16.1 and P16.2: money, rate, kind, and the ways to count and to roll turn no day.
func TestTurnsNothing(t *testing.T) {
	r := rand.New(rand.NewSource(163))
	for range 300 {
		x := someTerms(r)
		grid, code := Grid(x)
		all, same := Of(x)
		for kind := range 3 {
			for way := range 7 {
				for to := range 5 {
					x.Kind, x.Count, x.Roll = kind, way, to
					x.Money, x.Rate = 1+r.Intn(9000000000000), r.Intn(1000001)
					grids(t, x, grid, code)
					days(t, x, all, same)
				}
			}
		}
		for _, both := range [][2]int{{1, 0}, {1, 1000000}, {1000000000000000, 0}, {1000000000000000, 9000}} {
			x.Money, x.Rate = both[0], both[1]
			grids(t, x, grid, code)
			days(t, x, all, same)
		}
	}
}

// TestLongGrid is of P16.1: Long turns no step.
func TestLongGrid(t *testing.T) {
	r := rand.New(rand.NewSource(164))
	for range 1000 {
		x := someTerms(r)
		grid, code := Grid(x)
		x.Long = !x.Long
		grids(t, x, grid, code)
	}
}

// question is what is asked of both calls, and what was answered.
type question struct {
	terms           api.Terms
	grid, days      []int
	gridCode, dCode api.Errno
}

// answered makes the calls.
func answered(x api.Terms) question {
	q := question{terms: x}
	q.grid, q.gridCode = Grid(x)
	q.days, q.dCode = Of(x)
	return q
}

// held holds what is answered now against what was answered ahead.
func (q question) held(t *testing.T) {
	t.Helper()
	grids(t, q.terms, q.grid, q.gridCode)
	days(t, q.terms, q.days, q.dCode)
}

// questions are calls by chance, some of them of terms that may not be.
func questions(seed int64, many int) []question {
	r := rand.New(rand.NewSource(seed))
	all := make([]question, many)
	for i := range all {
		x := someTerms(r)
		if r.Intn(8) == 0 {
			f := faults()[r.Intn(len(faults()))]
			f.put(&x, f.bad[r.Intn(len(f.bad))])
		}
		all[i] = answered(x)
	}
	return all
}

// TestAnyOrder is of R4: nothing is kept between calls, so that they answer alike in any order.
func TestAnyOrder(t *testing.T) {
	all := questions(165, 1000)
	r := rand.New(rand.NewSource(166))
	for range 3 {
		for _, i := range r.Perm(len(all)) {
			all[i].held(t)
			all[i].held(t)
		}
	}
}

// TestAtOnce is of R4: calls beside each other share nothing.
func TestAtOnce(t *testing.T) {
	shared := questions(167, 300)
	var all sync.WaitGroup
	for range 8 {
		all.Go(func() {
			for _, q := range shared {
				q.held(t)
			}
		})
	}
	all.Wait()
}

// TestOwnMemory is of R3: what was answered isn't turned by a later call, and no later call by what is done to it.
func TestOwnMemory(t *testing.T) {
	all := questions(168, 400)
	kept := make([]question, len(all))
	for i, q := range all {
		kept[i] = q
		kept[i].grid, kept[i].days = slices.Clone(q.grid), slices.Clone(q.days)
	}
	for _, q := range all {
		answered(q.terms)
	}
	for i, q := range all {
		if !slices.Equal(q.grid, kept[i].grid) || !slices.Equal(q.days, kept[i].days) {
			t.Fatalf("%+v: an answer is turned", q.terms)
		}
	}
	// To the ends of the memory that was answered, too.
	for i, q := range all {
		for _, list := range [][]int{q.grid, q.days} {
			list = list[:cap(list)]
			for place := range list {
				list[place] = -7
			}
		}
		kept[i].held(t)
	}
	for _, q := range kept {
		q.held(t)
	}
	x := loan(number(2024, 1, 15), number(2025, 2, 20), 3)
	grid, _ := Grid(x)
	one, _ := Of(x)
	two, _ := Of(x)
	before := slices.Clone(grid)
	for i := range one {
		one[i] = -7
	}
	_ = append(one[:2], -8, -8)
	if !slices.Equal(grid, before) || !slices.Equal(two, list(t, "2024-01-15 2024-04-15 2024-07-15 2024-10-15 2025-01-15 2025-02-20")) {
		t.Error(shown(grid), shown(two))
	}
}

// TestSteps is of the chapter's section on ways: a range over the steps goes as far as it is wanted, anew each time.
func TestSteps(t *testing.T) {
	x := loan(number(2024, 1, 31), number(2024, 5, 1), 1)
	all := steps(x)
	want := list(t, "2024-01-31 2024-02-29 2024-03-31 2024-04-30 2024-05-31")
	for many := 1; many <= len(want); many++ {
		var got []int
		for day := range all {
			if got = append(got, day); len(got) == many {
				break
			}
		}
		if !slices.Equal(got, want[:many]) {
			t.Errorf("%d steps: %s", many, shown(got))
		}
	}
	if got := slices.Collect(all); !slices.Equal(got, want) {
		t.Error(shown(got))
	}
	x.Back = true
	if got := slices.Collect(steps(x)); !slices.Equal(got, list(t, "2024-05-01 2024-04-01 2024-03-01 2024-02-01 2024-01-01")) {
		t.Error(shown(got))
	}
}

// TestExample is the chapter's.
func TestExample(t *testing.T) {
	x := loan(read(t, "2024-01-15"), read(t, "2025-02-20"), 3)
	x.Back = true
	grids(t, x, list(t, "2023-11-20 2024-02-20 2024-05-20 2024-08-20 2024-11-20 2025-02-20"), api.OK)
	days(t, x, list(t, "2024-01-15 2024-02-20 2024-05-20 2024-08-20 2024-11-20 2025-02-20"), api.OK)
	x.Long = true
	days(t, x, list(t, "2024-01-15 2024-05-20 2024-08-20 2024-11-20 2025-02-20"), api.OK)
	grids(t, x, list(t, "2023-11-20 2024-02-20 2024-05-20 2024-08-20 2024-11-20 2025-02-20"), api.OK)
}
