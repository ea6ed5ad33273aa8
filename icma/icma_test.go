package icma

import (
	"errors"
	"math"
	"math/big"
	"math/rand"
	"slices"
	"testing"
	"time"

	"demurrage/api"
	"demurrage/ratio"
)

// day0 is the day ahead of the first one, as the library's calendar knows it.
var day0 = time.Date(1, time.January, 0, 0, 0, 0, 0, time.UTC).Unix() / 86400

// number is the number of a day of the library's calendar.
func number(y, m, d int) int {
	return int(time.Date(y, time.Month(m), d, 0, 0, 0, 0, time.UTC).Unix()/86400 - day0)
}

// noDays are numbers that are no day's.
var noDays = []int{0, -1, -2, -366, 3652060, 3652061, 7304118, -3652059, math.MinInt, math.MinInt + 1, math.MaxInt, math.MaxInt - 1, 1 << 32, 1<<32 + 738945, -1 << 32, 1 << 62, -1 << 62}

// wrongFreqs are numbers of periods that no year is made of.
var wrongFreqs = []int{0, 13, 14, 24, 365, -1, -2, -12, -13, math.MinInt, math.MinInt + 1, math.MaxInt, math.MaxInt - 1, 1 << 32, 1<<32 + 1, -1<<32 + 2, 1 << 62}

// halves are the days of the chapter's example, and quarters such as a bond has.
var (
	halves   = []int{number(2024, 1, 1), number(2024, 7, 1), number(2025, 1, 1)}
	quarters = []int{number(2023, 11, 30), number(2024, 2, 29), number(2024, 5, 31), number(2024, 8, 30), number(2024, 11, 29), number(2025, 2, 28)}
)

// inRow are so many days, each the same number of days behind the one ahead, from a first one on.
func inRow(first, many, step int) []int {
	refs := make([]int, many)
	for i := range refs {
		refs[i] = first + i*step
	}
	return refs
}

// with are days with another one at a place, in new memory.
func with(refs []int, place, day int) []int {
	refs = slices.Clone(refs)
	refs[place] = day
	return refs
}

// byBig is a fraction of any size.
func byBig(n, d int) *big.Rat { return big.NewRat(int64(n), int64(d)) }

// lowest is a fraction of any size as what a call should answer: big ones are in lowest terms.
func lowest(x *big.Rat) api.Ratio {
	return api.Ratio{N: int(x.Num().Int64()), D: int(x.Denom().Int64())}
}

// mayBe are the words of the chapter on periods, one by one.
func mayBe(refs []int, freq int) bool {
	if len(refs) < 2 || len(refs) > 1204 || freq < 1 || freq > 12 {
		return false
	}
	for i, n := range refs {
		if n < 1 || n > 3652059 || i > 0 && n < refs[i-1] {
			return false
		}
	}
	return refs[len(refs)-1] > refs[0]
}

// wanted is the part of two days by the words of the chapter, its days counted one by one, by numbers of any size.
func wanted(a, b int, refs []int, freq int) *big.Rat {
	sum := new(big.Rat)
	for i := 0; i+1 < len(refs); i++ {
		in, all := 0, 0
		for n := refs[i]; n < refs[i+1]; n++ {
			all++
			if n >= a && n < b {
				in++
			}
		}
		if all > 0 {
			sum.Add(sum, byBig(in, freq*all))
		}
	}
	return sum
}

// answered holds an answer against a fraction in lowest terms, and refs against what they were.
func answered(t *testing.T, a, b int, refs []int, freq int, want api.Ratio) {
	t.Helper()
	before := slices.Clone(refs)
	if got, e := Part(a, b, refs, freq); got != want || e != api.OK {
		t.Fatalf("Part(%d, %d, %v, %d) = %v, %d, not %v", a, b, some(refs), freq, got, e, want)
	}
	if !slices.Equal(refs, before) {
		t.Fatalf("Part(%d, %d, %v, %d) leaves %v", a, b, some(before), freq, some(refs))
	}
}

// held holds an answer against the words of the chapter.
func held(t *testing.T, a, b int, refs []int, freq int) {
	t.Helper()
	answered(t, a, b, refs, freq, lowest(wanted(a, b, refs, freq)))
}

// refused holds an answer against a code with nothing beside it, and refs against what they were.
func refused(t *testing.T, a, b int, refs []int, freq int, want api.Errno) {
	t.Helper()
	before := slices.Clone(refs)
	if got, e := Part(a, b, refs, freq); got != (api.Ratio{}) || e != want {
		t.Errorf("Part(%d, %d, %v, %d) = %v, %d, not %d", a, b, some(refs), freq, got, e, want)
	}
	if !slices.Equal(refs, before) {
		t.Errorf("Part(%d, %d, %v, %d) leaves %v", a, b, some(before), freq, some(refs))
	}
}

// told holds May's answer against what it should be, and refs against what they were.
func told(t *testing.T, refs []int, freq int, want bool) {
	t.Helper()
	before := slices.Clone(refs)
	if got := May(refs, freq); got != want {
		t.Errorf("May(%v, %d) = %v", some(refs), freq, got)
	}
	if !slices.Equal(refs, before) {
		t.Errorf("May(%v, %d) leaves %v", some(before), freq, some(refs))
	}
}

// some are the first of many days, so that what a test says can be read.
func some(refs []int) []int { return refs[:min(len(refs), 20)] }

// wrongRefs are days of which no periods may be made, by what is wrong of them.
func wrongRefs() map[string][]int {
	wrong := map[string][]int{
		"none": nil, "none, but a list": {}, "one": {738886}, "one, the first of all": {1}, "one, the last of all": {3652059}, "one, no day": {0},
		"1205": inRow(738886, 1205, 7), "1206": inRow(738886, 1206, 1), "3000": inRow(1, 3000, 1000), "1205, of two days": with(slices.Repeat([]int{738886}, 1205), 1204, 738887),
		"two, the same": {738886, 738886}, "three, the same": {738886, 738886, 738886}, "1204, the same": slices.Repeat([]int{738886}, 1204), "the first of all, twice": {1, 1}, "the last of all, twice": {3652059, 3652059},
		"two that fall": {738886, 738885}, "two that fall far": {3652059, 1}, "up, and back to the first": {738886, 738986, 738886}, "up, and below the first": {738886, 738986, 738880},
	}
	for name, refs := range map[string][]int{"of six": quarters, "of 1204": inRow(738886, 1204, 30)} {
		last := len(refs) - 1
		wrong["a fall at the second place "+name] = with(refs, 1, refs[0]-1)
		wrong["a fall behind the second place "+name] = with(refs, 1, refs[2]+1)
		wrong["a fall in the middle "+name] = with(refs, last/2, refs[last/2-1]-1)
		wrong["a fall at the last one "+name] = with(refs, last, refs[last-1]-1)
		wrong["a far fall at the last one "+name] = with(refs, last, 1)
		wrong["all of it back "+name] = slices.Clone(refs)
		slices.Reverse(wrong["all of it back "+name])
	}
	return wrong
}

// TestMay is of P9.1: ordinary periods, and as few and as many days as there may be.
func TestMay(t *testing.T) {
	for _, refs := range [][]int{
		halves, quarters, {1, 2}, {3652058, 3652059}, {1, 3652059}, {738886, 738887}, {738886, 738886, 738887}, {738886, 738887, 738887}, {1, 1, 3652059, 3652059},
		inRow(738886, 2, 365), inRow(738886, 3, 183), inRow(738886, 1203, 7), inRow(738886, 1204, 7), inRow(1, 1204, 3000), inRow(3652059-1203, 1204, 1),
		with(slices.Repeat([]int{738886}, 1204), 1203, 738887), with(slices.Repeat([]int{738886}, 1204), 0, 738885),
	} {
		for freq := 1; freq <= 12; freq++ {
			told(t, refs, freq, true)
		}
		for _, freq := range wrongFreqs {
			told(t, refs, freq, false)
		}
	}
	for many := 0; many <= 1300; many++ {
		told(t, inRow(500000, many, 30), 12, many >= 2 && many <= 1204)
	}
}

// TestMayNot is of P9.1: too few days and too many, days that fall, and periods of no days, whatever freq is.
func TestMayNot(t *testing.T) {
	for name, refs := range wrongRefs() {
		for _, freq := range append([]int{1, 2, 3, 4, 6, 12}, wrongFreqs...) {
			if May(refs, freq) {
				t.Errorf("%s: May(%v, %d)", name, some(refs), freq)
			}
		}
	}
}

// TestMayNoDay is of P9.1: numbers that are no day at each place, also where they don't fall.
func TestMayNoDay(t *testing.T) {
	for _, refs := range [][]int{{738886, 739252}, halves, quarters, inRow(738886, 1204, 30), {1, 3652059}} {
		last := len(refs) - 1
		for _, none := range noDays {
			for _, place := range []int{0, 1, last / 2, last - 1, last} {
				told(t, with(refs, place, none), 2, false)
			}
		}
	}
	for _, refs := range [][]int{
		{0, 1}, {-1, 1}, {0, 1, 2}, {-1, 0, 1, 2}, {0, 3652059}, {0, 0, 5}, {math.MinInt, 5}, {math.MinInt, 3652059}, {-5, -4, -3}, {math.MinInt, math.MinInt + 1},
		{3652059, 3652060}, {1, 3652060}, {3652058, 3652059, 3652060}, {5, 3652060, 3652060}, {5, math.MaxInt}, {3652060, 3652061}, {math.MaxInt - 1, math.MaxInt}, {math.MinInt, math.MaxInt},
		{math.MinInt, 5, math.MaxInt}, {0, 5, 3652060}, {0, 3652060}, {1, 2, math.MaxInt}, {1<<32 + 1, 1<<32 + 5},
	} {
		told(t, refs, 2, false)
	}
}

// TestMayByChance is of P9.1: days and numbers of all kinds, against the chapter's words.
func TestMayByChance(t *testing.T) {
	r := rand.New(rand.NewSource(91))
	met := map[bool]int{}
	for range 20000 {
		refs := make([]int, r.Intn(7))
		for i := range refs {
			refs[i] = []int{1 + r.Intn(5), 1 + r.Intn(api.MaxDay), 3652055 + r.Intn(5)}[r.Intn(3)]
		}
		if r.Intn(4) > 0 {
			slices.Sort(refs)
		}
		if len(refs) > 0 && r.Intn(4) == 0 {
			refs[r.Intn(len(refs))] = noDays[r.Intn(len(noDays))]
		}
		freq := r.Intn(15) - 1
		want := mayBe(refs, freq)
		met[want]++
		told(t, refs, freq, want)
	}
	if met[true] < 2000 || met[false] < 2000 {
		t.Error(met)
	}
}

// TestNoDay is of P9.2: numbers that are no day, at either place and at both, above and below the other one, by periods that may be and by such that may not: ErrDay stands ahead of all else.
func TestNoDay(t *testing.T) {
	sides := wrongRefs()
	sides["halves"], sides["all days"] = halves, []int{1, 3652059}
	for _, refs := range sides {
		for _, freq := range []int{2, 0, -1} {
			for _, none := range noDays {
				for _, n := range []int{1, 2, 738886, 738900, 3652058, 3652059, 0, -1, 3652060, none} {
					refused(t, none, n, refs, freq, api.ErrDay)
					refused(t, n, none, refs, freq, api.ErrDay)
				}
			}
		}
	}
}

// TestOrder is of P9.2: a above b, by one day and by far, within the periods and outside them, by periods that may be and by such that may not: ErrOrder stands ahead of ErrSide.
func TestOrder(t *testing.T) {
	sides := wrongRefs()
	sides["halves"], sides["all days"] = halves, []int{1, 3652059}
	for _, refs := range sides {
		for _, freq := range []int{2, 12, 0, 13} {
			for _, x := range [][2]int{
				{2, 1}, {3652059, 3652058}, {3652059, 1}, {halves[0] + 1, halves[0]}, {halves[0], halves[0] - 1}, {halves[2], halves[2] - 1}, {halves[2] + 1, halves[2]},
				{halves[1], halves[0]}, {halves[2], halves[0]}, {halves[2] + 1, halves[0] - 1}, {738945, 1}, {3652059, 738945},
			} {
				refused(t, x[0], x[1], refs, freq, api.ErrOrder)
			}
		}
	}
}

// TestSide is of P9.2: periods that may not be, for their days and for freq, of days that are in order.
func TestSide(t *testing.T) {
	pairs := [][2]int{{738886, 738886}, {738886, 738887}, {738886, 738986}, {1, 3652059}, {1, 1}, {3652059, 3652059}, {738900, 739000}}
	for _, refs := range wrongRefs() {
		for _, x := range pairs {
			for freq := 1; freq <= 12; freq++ {
				refused(t, x[0], x[1], refs, freq, api.ErrSide)
			}
		}
	}
	for _, refs := range [][]int{halves, quarters, {1, 3652059}} {
		last := len(refs) - 1
		for _, freq := range wrongFreqs {
			refused(t, refs[0], refs[last], refs, freq, api.ErrSide)
			refused(t, refs[0], refs[0], refs, freq, api.ErrSide)
			refused(t, refs[0]+1, refs[last]-1, refs, freq, api.ErrSide)
		}
		for _, none := range noDays {
			for _, place := range []int{0, last / 2, last} {
				for _, x := range pairs {
					refused(t, x[0], x[1], with(refs, place, none), 2, api.ErrSide)
				}
			}
		}
	}
}

// TestOutside is of P9.2: a below the first day of refs, b above the last one, by one day and by far; at both bounds they are none.
func TestOutside(t *testing.T) {
	for _, refs := range [][]int{halves, quarters, inRow(738886, 1204, 30), {738886, 738887}, {738886, 738886, 739000, 739000}, {2, 3652058}} {
		first, last := refs[0], refs[len(refs)-1]
		for _, x := range [][2]int{
			{first - 1, last}, {first - 1, first}, {first - 1, first - 1}, {first - 1, first + 1}, {1, first}, {1, last}, {1, 1},
			{first, last + 1}, {last, last + 1}, {last + 1, last + 1}, {last - 1, last + 1}, {last, 3652059}, {first, 3652059}, {3652059, 3652059},
			{first - 1, last + 1}, {1, 3652059}, {1, last + 1}, {first - 1, 3652059},
		} {
			refused(t, x[0], x[1], refs, 2, api.ErrSide)
		}
		for _, x := range [][2]int{{first, last}, {first, first}, {last, last}, {first, first + 1}, {last - 1, last}} {
			held(t, x[0], x[1], refs, 2)
		}
	}
}

// TestRefusal is of P9.1 and P9.2: why a call refuses wraps the error behind it, and has a code.
func TestRefusal(t *testing.T) {
	for _, x := range []struct {
		a, b int
		refs []int
		freq int
		why  error
		code api.Errno
	}{
		{0, 5, halves, 2, errNoDay, api.ErrDay}, {5, 3652060, nil, 0, errNoDay, api.ErrDay}, {6, 5, nil, 0, errOrder, api.ErrOrder},
		{5, 6, nil, 2, errMany, api.ErrSide}, {5, 5, []int{5}, 2, errMany, api.ErrSide}, {5, 6, inRow(5, 1205, 1), 2, errMany, api.ErrSide}, {5, 6, []int{7, 6}, 2, errFalls, api.ErrSide},
		{5, 6, []int{0, 6}, 2, errNoDay, api.ErrSide}, {5, 6, []int{5, 3652060}, 2, errNoDay, api.ErrSide}, {5, 6, []int{5, 5}, 2, errEmpty, api.ErrSide},
		{5, 6, []int{5, 6}, 0, errFreq, api.ErrSide}, {5, 6, []int{5, 6}, 13, errFreq, api.ErrSide}, {4, 6, []int{5, 6}, 2, errOutside, api.ErrSide}, {5, 7, []int{5, 6}, 2, errOutside, api.ErrSide},
	} {
		why := check(x.a, x.b, x.refs, x.freq)
		if why == nil || !errors.Is(why, x.why) || why.Error() != x.why.Error() || code(why) != x.code || code(errors.Join(errors.New("ahead"), why)) != x.code {
			t.Errorf("check(%d, %d, %v, %d) = %v", x.a, x.b, some(x.refs), x.freq, why)
		}
	}
	if why := check(5, 6, []int{5, 6}, 1); why != nil || code(why) != api.OK {
		t.Error(why)
	}
}

// TestShares are of P9.2: each period that has days from a to b, in order, until no more are asked for.
func TestShares(t *testing.T) {
	refs := []int{10, 10, 20, 20, 25, 40, 40}
	for _, x := range []struct {
		a, b int
		want [][2]int
	}{
		{10, 40, [][2]int{{10, 10}, {5, 5}, {15, 15}}}, {12, 39, [][2]int{{8, 10}, {5, 5}, {14, 15}}}, {20, 25, [][2]int{{5, 5}}}, {19, 26, [][2]int{{1, 10}, {5, 5}, {1, 15}}},
		{10, 10, nil}, {20, 20, nil}, {22, 22, nil}, {40, 40, nil}, {22, 24, [][2]int{{2, 5}}},
	} {
		var got [][2]int
		for days, length := range shares(x.a, x.b, refs) {
			got = append(got, [2]int{days, length})
		}
		if !slices.Equal(got, x.want) {
			t.Errorf("shares(%d, %d) = %v, not %v", x.a, x.b, got, x.want)
		}
		for many := range x.want {
			gone := 0
			for range shares(x.a, x.b, refs) {
				if gone == many {
					break
				}
				gone++
			}
			if gone != many {
				t.Errorf("shares(%d, %d) goes %d far, not %d", x.a, x.b, gone, many)
			}
		}
	}
}

// TestSameDay is of P9.2: it is 0, by 1, of each day from the first of refs to the last one.
func TestSameDay(t *testing.T) {
	for _, refs := range [][]int{halves, quarters, {1, 2}, {3652058, 3652059}, {738886, 738886, 738986, 738986}} {
		for freq := 1; freq <= 12; freq++ {
			for n := refs[0]; n <= refs[len(refs)-1]; n++ {
				answered(t, n, n, refs, freq, api.Ratio{N: 0, D: 1})
			}
		}
	}
	for n := 1; n <= 3652059; n += 1 + n%7000 {
		answered(t, n, n, []int{1, 3652059}, 1, api.Ratio{N: 0, D: 1})
	}
	answered(t, 3652059, 3652059, []int{1, 3652059}, 1, api.Ratio{N: 0, D: 1})
}

// TestParts are of P9.2: days in one period, in two one behind the other and in some far apart, at bounds of periods and one day on either side.
func TestParts(t *testing.T) {
	refs := []int{100, 110, 130, 160, 200}
	for _, x := range []struct {
		a, b, freq int
		want       api.Ratio
	}{
		// One period.
		{100, 101, 1, api.Ratio{N: 1, D: 10}}, {100, 101, 12, api.Ratio{N: 1, D: 120}}, {100, 105, 1, api.Ratio{N: 1, D: 2}}, {103, 107, 2, api.Ratio{N: 1, D: 5}},
		{109, 110, 1, api.Ratio{N: 1, D: 10}}, {100, 109, 1, api.Ratio{N: 9, D: 10}}, {101, 110, 1, api.Ratio{N: 9, D: 10}}, {100, 110, 1, api.Ratio{N: 1, D: 1}},
		{110, 130, 4, api.Ratio{N: 1, D: 4}}, {110, 111, 4, api.Ratio{N: 1, D: 80}}, {129, 130, 4, api.Ratio{N: 1, D: 80}}, {111, 129, 4, api.Ratio{N: 9, D: 40}},
		{160, 200, 2, api.Ratio{N: 1, D: 2}}, {199, 200, 2, api.Ratio{N: 1, D: 80}}, {160, 161, 2, api.Ratio{N: 1, D: 80}}, {161, 199, 2, api.Ratio{N: 19, D: 40}},
		// Two, one behind the other.
		{109, 111, 1, api.Ratio{N: 3, D: 20}}, {100, 111, 1, api.Ratio{N: 21, D: 20}}, {109, 130, 1, api.Ratio{N: 11, D: 10}}, {100, 130, 1, api.Ratio{N: 2, D: 1}},
		{105, 120, 1, api.Ratio{N: 1, D: 1}}, {105, 120, 3, api.Ratio{N: 1, D: 3}}, {129, 131, 2, api.Ratio{N: 1, D: 24}}, {159, 161, 12, api.Ratio{N: 7, D: 1440}},
		// Whole ones between.
		{105, 145, 1, api.Ratio{N: 2, D: 1}}, {105, 180, 1, api.Ratio{N: 3, D: 1}}, {109, 161, 1, api.Ratio{N: 17, D: 8}}, {101, 199, 1, api.Ratio{N: 31, D: 8}},
		{100, 160, 12, api.Ratio{N: 1, D: 4}}, {110, 200, 12, api.Ratio{N: 1, D: 4}}, {100, 200, 1, api.Ratio{N: 4, D: 1}}, {100, 200, 12, api.Ratio{N: 1, D: 3}},
		{100, 200, 5, api.Ratio{N: 4, D: 5}}, {101, 200, 1, api.Ratio{N: 39, D: 10}}, {100, 199, 1, api.Ratio{N: 159, D: 40}}, {101, 131, 7, api.Ratio{N: 29, D: 105}},
	} {
		answered(t, x.a, x.b, refs, x.freq, x.want)
	}
}

// TestEachPair is of P9.2: each two days of periods of many lengths, by each freq.
func TestEachPair(t *testing.T) {
	for _, refs := range [][]int{
		{1, 2}, {1, 40}, {3652059 - 40, 3652059}, {1, 2, 4, 7, 11, 16, 22, 29, 37}, {738886, 738893, 738893, 738910, 738911}, {738886, 738886, 738900, 738930, 738930}, inRow(738886, 30, 1), inRow(738886, 12, 3),
	} {
		for freq := 1; freq <= 12; freq++ {
			for a := refs[0]; a <= refs[len(refs)-1]; a++ {
				for b := a; b <= refs[len(refs)-1]; b++ {
					held(t, a, b, refs, freq)
				}
			}
		}
	}
	for a := quarters[0]; a <= quarters[5]; a++ {
		for b := a; b <= quarters[5]; b += 1 + b%5 {
			held(t, a, b, quarters, 4)
		}
	}
}

// TestWhole is of P9.3: a whole period is 1 by freq, for each freq, however long it is, and k of them are k by freq.
func TestWhole(t *testing.T) {
	for _, refs := range [][]int{halves, quarters, {1, 2}, {1, 3652059}, {3652058, 3652059}, {1, 2, 3652059}, {1, 738886, 738887, 3652059}, inRow(738886, 1204, 7), inRow(1, 1204, 3000)} {
		for freq := 1; freq <= 12; freq++ {
			for i := range refs[1:] {
				answered(t, refs[i], refs[i+1], refs, freq, api.Ratio{N: 1, D: freq})
			}
			for from := 0; from < len(refs); from += 1 + from/2*5 {
				for to := from; to < len(refs); to += 1 + (to-from)*3 {
					answered(t, refs[from], refs[to], refs, freq, lowest(byBig(to-from, freq)))
				}
			}
			answered(t, refs[0], refs[len(refs)-1], refs, freq, lowest(byBig(len(refs)-1, freq)))
		}
	}
}

// TestTwice is of P9.2: a day told twice or more makes periods of no days, which turn nothing, at the first place, in the middle and at the last one.
func TestTwice(t *testing.T) {
	r := rand.New(rand.NewSource(92))
	for _, x := range [][]int{{100, 110, 130, 160}, quarters, {1, 3652059}, {100, 101}} {
		last := len(x) - 1
		first := x[0]
		for _, places := range [][]int{{0}, {last}, {last / 2}, {0, last}, {0, 0, 0}, {last, last, last}, {0, last / 2, last / 2, last}} {
			refs := slices.Clone(x)
			for _, place := range places {
				refs = append(refs, x[place])
			}
			slices.Sort(refs)
			for freq := 1; freq <= 12; freq++ {
				told(t, refs, freq, true)
				for _, pair := range [][2]int{{first, x[last]}, {first, first + 1}, {x[last] - 1, x[last]}, {x[last/2], x[last]}, {first, x[last/2]}, {first, x[1]}, {x[last-1], x[last]}} {
					want, e := Part(pair[0], pair[1], x, freq)
					if e != api.OK {
						t.Fatal(x, pair, e)
					}
					answered(t, pair[0], pair[1], refs, freq, want)
				}
				for _, n := range x {
					answered(t, n, n, refs, freq, api.Ratio{N: 0, D: 1})
				}
				a := first + r.Intn(x[last]-first)
				b := a + 1 + r.Intn(x[last]-a)
				want, _ := Part(a, b, x, freq)
				answered(t, a, b, refs, freq, want)
			}
		}
	}
	answered(t, 738886, 738887, with(slices.Repeat([]int{738886}, 1204), 1203, 738887), 3, api.Ratio{N: 1, D: 3})
	answered(t, 738885, 738886, with(slices.Repeat([]int{738886}, 1204), 0, 738885), 3, api.Ratio{N: 1, D: 3})
}

// byChance are days that rise, of all years or of a few, some of them told twice; always the same ones of one source.
func byChance(r *rand.Rand) []int {
	refs := make([]int, 2+r.Intn([]int{3, 20, 1203}[r.Intn(3)]))
	for {
		base, width := 1, api.MaxDay
		if r.Intn(2) == 0 {
			width = 1 + r.Intn(5000)
			base = 1 + r.Intn(api.MaxDay-width+1)
		}
		for i := range refs {
			refs[i] = base + r.Intn(width)
		}
		slices.Sort(refs)
		if refs[0] < refs[len(refs)-1] {
			return refs
		}
	}
}

// within is a day from the first of refs to the last one, often one of them, or next to one.
func within(r *rand.Rand, refs []int) int {
	first, last := refs[0], refs[len(refs)-1]
	if r.Intn(2) == 0 {
		return first + r.Intn(last-first+1)
	}
	return min(max(refs[r.Intn(len(refs))]+r.Intn(3)-1, first), last)
}

// TestByChance is of P9.2: periods of all lengths, against sums of any size of their shares.
func TestByChance(t *testing.T) {
	r := rand.New(rand.NewSource(9))
	for range 4000 {
		refs, freq := byChance(r), 1+r.Intn(12)
		told(t, refs, freq, true)
		a, b := within(r, refs), within(r, refs)
		a, b = min(a, b), max(a, b)
		want := new(big.Rat)
		for i := range refs[1:] {
			if refs[i] == refs[i+1] || b <= refs[i] || a >= refs[i+1] {
				continue
			}
			want.Add(want, byBig(min(b, refs[i+1])-max(a, refs[i]), freq*(refs[i+1]-refs[i])))
		}
		answered(t, a, b, refs, freq, lowest(want))
	}
}

// TestSums are of P9.3: parts from a to b, and from b to c, add up to the one from a to c.
func TestSums(t *testing.T) {
	r := rand.New(rand.NewSource(93))
	for range 4000 {
		refs, freq := byChance(r), 1+r.Intn(12)
		days := []int{within(r, refs), within(r, refs), within(r, refs)}
		slices.Sort(days)
		a, b, c := days[0], days[1], days[2]
		for _, x := range [][3]int{{a, b, c}, {a, a, c}, {a, c, c}, {refs[0], b, refs[len(refs)-1]}} {
			first, e := Part(x[0], x[1], refs, freq)
			second, f := Part(x[1], x[2], refs, freq)
			sum, g := ratio.Add(first, second)
			whole, h := Part(x[0], x[2], refs, freq)
			if sum != whole || e != api.OK || f != api.OK || g != api.OK || h != api.OK {
				t.Fatalf("%v of %v by %d: %v and %v are not %v: %d, %d, %d, %d", x, some(refs), freq, first, second, whole, e, f, g, h)
			}
			for _, part := range []api.Ratio{first, second, whole} {
				if !ratio.Right(part) {
					t.Fatalf("%v of %v by %d: %v", x, some(refs), freq, part)
				}
			}
		}
	}
}

// TestFar is of P9.2 and P9.3: from the first day of all to the last one, days at its ends and in between, and numbers as great as they come.
func TestFar(t *testing.T) {
	all := []int{1, 3652059}
	for freq := 1; freq <= 12; freq++ {
		answered(t, 1, 3652059, all, freq, api.Ratio{N: 1, D: freq})
		for _, x := range [][2]int{{1, 2}, {3652058, 3652059}, {2, 3652059}, {1, 3652058}, {2, 3652058}, {738945, 739311}} {
			answered(t, x[0], x[1], all, freq, lowest(byBig(x[1]-x[0], freq*3652058)))
		}
	}
	// Lengths that share no divisor with freq, nor with one another: what stands below is all three.
	answered(t, 2, 3652058, []int{1, 1826029, 3652059}, 11, lowest(new(big.Rat).Add(byBig(1826027, 11*1826028), byBig(1826029, 11*1826030))))
	// As many whole periods as may be, of one day each, between two long ones.
	refs := append([]int{1}, append(inRow(1826029, 1202, 1), 3652059)...)
	want := new(big.Rat).Add(byBig(1826027, 11*1826028), byBig(1201, 11))
	want.Add(want, byBig(3652058-1827230, 11*(3652059-1827230)))
	answered(t, 2, 3652058, refs, 11, lowest(want))
}

// TestLowestTerms are of P9.2: each number that divides freq times a period's days stands below, and none but these.
func TestLowestTerms(t *testing.T) {
	for freq := 1; freq <= 12; freq++ {
		for _, length := range []int{1, 7, 30, 181, 182, 184, 365, 366} {
			met := map[int]bool{}
			for b := 1001; b <= 1000+length; b++ {
				got, e := Part(1000, b, []int{1000, 1000 + length}, freq)
				if e != api.OK || !ratio.Right(got) || freq*length%got.D != 0 || got.N*(freq*length/got.D) != b-1000 {
					t.Fatalf("%d of %d days by %d: %v, %d", b-1000, length, freq, got, e)
				}
				met[got.D] = true
			}
			for d := freq; d <= freq*length; d += freq {
				if freq*length%d == 0 && !met[d] {
					t.Errorf("%d days by %d: no part by %d", length, freq, d)
				}
			}
		}
	}
}

// TestRefsStay is of R3 and R4: what lies behind refs in the same memory stays, too, and what is answered stays when refs are written to.
func TestRefsStay(t *testing.T) {
	memory := []int{738886, 738900, 738930, 738930, 738990, -7, 5, 1 << 40}
	before := slices.Clone(memory)
	for range 3 {
		answered(t, 738890, 738980, memory[:5], 4, lowest(wanted(738890, 738980, before[:5], 4)))
		told(t, memory[:5], 4, true)
		told(t, memory, 4, false)
		refused(t, 738890, 738980, memory[:6], 4, api.ErrSide)
		if !slices.Equal(memory, before) {
			t.Fatal(memory)
		}
	}
	memory[1]++
	answered(t, 738886, 738900, memory[:5], 4, api.Ratio{N: 7, D: 30})
}

// TestExamples are those of the chapter.
func TestExamples(t *testing.T) {
	answered(t, number(2024, 1, 1), number(2024, 7, 1), halves, 2, api.Ratio{N: 1, D: 2})
	answered(t, number(2024, 4, 1), number(2024, 7, 1), halves, 2, api.Ratio{N: 1, D: 4})
	answered(t, number(2024, 1, 1), number(2025, 1, 1), halves, 2, api.Ratio{N: 1, D: 1})
}
