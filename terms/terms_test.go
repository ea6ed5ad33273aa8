package terms

import (
	"errors"
	"math"
	"math/big"
	"math/rand"
	"slices"
	"strings"
	"sync"
	"testing"

	"demurrage/api"
	"demurrage/civil"
	"demurrage/count"
	"demurrage/roll"
)

const (
	firstDay  = 1
	lastDay   = 3652059
	mostMoney = 1000000000000000
	mostRate  = 1000000
	mostBoth  = 9000000000000000000
)

// texts are the chapter's names, by the numbers of their kinds.
func texts() []string { return []string{0: "bullet", 1: "equal", 2: "level"} }

// freqs are how many periods a year has, by the months of each.
var freqs = map[int]int{1: 12, 2: 6, 3: 4, 4: 3, 6: 2, 12: 1}

// far are numbers far off, those among them that are like a small one but for a high bit.
func far() []int {
	all := []int{100, 255, 256, 257, 365, 1000, -100, -256, -1000, 1<<63 - 5, math.MaxInt, math.MaxInt - 1, math.MinInt, math.MinInt + 1, math.MinInt + 12}
	for bit := 8; bit < 64; bit++ {
		for low := -2; low <= 13; low++ {
			all = append(all, 1<<bit+low, -1<<bit+low)
		}
	}
	return all
}

// near are all numbers from -40 to 40, without some.
func near(without ...int) []int {
	var all []int
	for n := -40; n <= 40; n++ {
		if !slices.Contains(without, n) {
			all = append(all, n)
		}
	}
	return all
}

// Numbers that are none of the kind, near and far off.
var (
	noKinds  = append(near(0, 1, 2), far()...)
	noCounts = append(near(0, 1, 2, 3, 4, 5, 6), far()...)
	noRolls  = append(near(0, 1, 2, 3, 4), far()...)
	noMonths = append(near(1, 2, 3, 4, 6, 12), far()...)
	noDays   = []int{
		0, -1, -2, -365, -738945, 3652060, 3652061, 3652425, 7304118, -3652058, -3652059, -3652060, 1 << 31, 1 << 32, 1<<32 + 1, 1<<32 + 738945, -1 << 32, -1<<32 + 738945, 1 << 62, 1<<62 + 738945, -1 << 62,
		math.MinInt, math.MinInt + 1, math.MinInt + 738945, math.MaxInt, math.MaxInt - 1, math.MinInt32, math.MaxInt32,
	}
	noMoneys = []int{
		0, -1, -2, -100000, -mostMoney, -mostMoney - 1, mostMoney + 1, mostMoney + 2, 2 * mostMoney, mostBoth, mostBoth + 1, 1 << 51, 1 << 62, -1 << 62, math.MinInt, math.MinInt + 1, math.MinInt + 100000, math.MaxInt, math.MaxInt - 1,
	}
	noRates = []int{
		-1, -2, -500, -mostRate, -mostRate - 1, mostRate + 1, mostRate + 2, 2 * mostRate, 1 << 20, 1 << 32, 1<<32 + 500, -1 << 32, -1<<32 + 500, mostBoth, 1 << 62, -1 << 62, math.MinInt, math.MinInt + 1, math.MinInt + 500, math.MaxInt, math.MaxInt - 1,
	}
)

// example are the terms of the chapter's example.
func example() api.Terms {
	return api.Terms{Money: 100000, Rate: 500, Start: 738945, End: 739311, Months: 3}
}

// wanted is P15.2, word by word, with the product as a number of any size.
func wanted(t api.Terms) api.Errno {
	both := new(big.Int).Mul(big.NewInt(int64(t.Money)), big.NewInt(int64(t.Rate)))
	_, months := freqs[t.Months]
	switch {
	case t.Kind < 0 || t.Kind > 2, t.Count < 0 || t.Count > 6, t.Roll < 0 || t.Roll > 4, !months:
		return 1
	case t.Start < firstDay || t.Start > lastDay, t.End < firstDay || t.End > lastDay:
		return 3
	case t.Start >= t.End:
		return 4
	case t.Money < 1 || t.Money > mostMoney, t.Rate < 0 || t.Rate > mostRate, both.Cmp(big.NewInt(mostBoth)) > 0:
		return 2
	}
	return 0
}

// check holds Check against a code, whatever Back, Long and Eom are.
func check(t *testing.T, x api.Terms, want api.Errno) {
	t.Helper()
	for bits := range 8 {
		x.Back, x.Long, x.Eom = bits&1 == 1, bits&2 == 2, bits&4 == 4
		if e := Check(x); e != want {
			t.Errorf("Check(%+v) = %d, not %d", x, e, want)
		}
	}
}

// TestConstants are those that the document tells.
func TestConstants(t *testing.T) {
	for i, kind := range []int{api.TBullet, api.TEqual, api.TLevel} {
		if kind != i {
			t.Errorf("%s is %d", texts()[i], kind)
		}
	}
	if api.MinDay != firstDay || api.MaxDay != lastDay || api.MaxMoney != mostMoney || api.MaxRate != mostRate || api.MaxBoth != mostBoth {
		t.Error(api.MinDay, api.MaxDay, api.MaxMoney, api.MaxRate, api.MaxBoth)
	}
	if api.OK != 0 || api.ErrArg != 1 || api.ErrBound != 2 || api.ErrDay != 3 || api.ErrOrder != 4 || api.ErrForm != 10 {
		t.Error(api.OK, api.ErrArg, api.ErrBound, api.ErrDay, api.ErrOrder, api.ErrForm)
	}
}

// TestName is of P15.1: each kind's name, and nothing of numbers of no kind.
func TestName(t *testing.T) {
	for kind, name := range texts() {
		if got := Name(kind); got != name {
			t.Errorf("Name(%d) = %q", kind, got)
		}
	}
	for _, kind := range noKinds {
		if got := Name(kind); got != "" {
			t.Errorf("Name(%d) = %q", kind, got)
		}
	}
	for kind := -1000; kind <= 1000; kind++ {
		if got := Name(kind); (kind < 0 || kind > 2) && got != "" {
			t.Errorf("Name(%d) = %q", kind, got)
		}
	}
}

// TestKind is of P15.1: the kind of each name, also of one that is made anew, and its name again.
func TestKind(t *testing.T) {
	for kind, name := range texts() {
		for _, text := range []string{name, string([]byte(name)), strings.ToLower(strings.ToUpper(name)), ("x" + name + "y")[1 : 1+len(name)], Name(kind)} {
			if got, e := Kind(text); got != kind || e != api.OK {
				t.Errorf("Kind(%q) = %d, %d", text, got, e)
			}
		}
	}
}

// noName holds that a text that is no name is refused, and passes names over.
func noName(t *testing.T, text string) {
	t.Helper()
	if slices.Contains(texts(), text) {
		return
	}
	if got, e := Kind(text); got != 0 || e != api.ErrForm {
		t.Errorf("Kind(%q) = %d, %d", text, got, e)
	}
}

// TestKindNone is of P15.1: texts that are no names, though many are near to one.
func TestKindNone(t *testing.T) {
	for _, text := range []string{
		"", " ", "\n", "\x00", "0", "1", "2", "-1", "kind", "loan", "b", "e", "l", "bull", "equals", "equally", "levels", "levelled", "annuity", "none", "following", "30/360", "act/act", "bullet,equal", "bullet equal level", "bulletequallevel",
		"BULLET", "Bullet", "EQUAL", "Equal", "LEVEL", "Level", "leveL", " bullet", "bullet ", " equal ", "le vel", "bullet\n", "\tequal", "level\r", "bullet\x00", "\x00level", "level\xff", "\xff", "\xff\xfe", "\x80", "\u2028", "é",
		"ｌｅｖｅｌ", "lеvel", "le\u0301vel", "eq\u200bual", strings.Repeat("level", 1000), strings.Repeat("\xff", 100000),
	} {
		if slices.Contains(texts(), text) {
			t.Fatal(text)
		}
		noName(t, text)
	}
	for _, name := range texts() {
		noName(t, strings.ToUpper(name))
		noName(t, strings.ToUpper(name[:1])+name[1:])
		noName(t, name+name)
		for _, other := range texts() {
			noName(t, name+" "+other)
			noName(t, name+other)
		}
		for i := range len(name) {
			noName(t, name[:i])
			noName(t, name[i+1:])
			noName(t, name[:i]+name[i+1:])
			noName(t, name[:i]+strings.ToUpper(name[i:i+1])+name[i+1:])
		}
		for b := range 256 {
			letter := string([]byte{byte(b)})
			for i := range len(name) + 1 {
				noName(t, name[:i]+letter+name[i:])
				if i < len(name) {
					noName(t, name[:i]+letter+name[i+1:])
				}
			}
		}
	}
}

// TestFreq is of P15.1: how many periods a year has, and 0 of months that are none of a period.
func TestFreq(t *testing.T) {
	for months, want := range freqs {
		if got := Freq(months); got != want || got*months != 12 {
			t.Errorf("Freq(%d) = %d", months, got)
		}
	}
	for months := -1000; months <= 1000; months++ {
		if got := Freq(months); got != freqs[months] {
			t.Errorf("Freq(%d) = %d", months, got)
		}
	}
	for _, months := range noMonths {
		if got := Freq(months); got != 0 {
			t.Errorf("Freq(%d) = %d", months, got)
		}
	}
}

// TestMay is of P15.2: terms that may be, of all kinds and ways with all months of a period.
func TestMay(t *testing.T) {
	for kind := range 3 {
		for way := range 7 {
			for to := range 5 {
				for months := range freqs {
					x := example()
					x.Kind, x.Count, x.Roll, x.Months = kind, way, to, months
					check(t, x, api.OK)
				}
			}
		}
	}
}

// TestNoSuch is of P15.2: numbers of no kind and no way, and months that are none of a period.
func TestNoSuch(t *testing.T) {
	for _, n := range noKinds {
		x := example()
		x.Kind = n
		check(t, x, api.ErrArg)
	}
	for _, n := range noCounts {
		x := example()
		x.Count = n
		check(t, x, api.ErrArg)
	}
	for _, n := range noRolls {
		x := example()
		x.Roll = n
		check(t, x, api.ErrArg)
	}
	for _, n := range noMonths {
		x := example()
		x.Months = n
		check(t, x, api.ErrArg)
	}
}

// TestAsBelow is of P15.2: there are such ways to count as chapter 10 says, such ways to roll as chapter 14, and such days as chapter 4.
func TestAsBelow(t *testing.T) {
	for _, n := range append(near(), far()...) {
		x, want := example(), api.OK
		if x.Count = n; count.Name(n) == "" {
			want = api.ErrArg
		}
		check(t, x, want)
		x, want = example(), api.OK
		if x.Roll = n; roll.Name(n) == "" {
			want = api.ErrArg
		}
		check(t, x, want)
	}
	for _, n := range append([]int{firstDay, 2, 738945, lastDay - 1, lastDay}, noDays...) {
		x, want := example(), api.ErrOrder
		if _, e := civil.Of(n); e != api.OK {
			want = api.ErrDay
		}
		x.Start, x.End = n, n
		check(t, x, want)
	}
}

// TestDays is of P15.2: the first and the last day of all and just beyond, one day apart, the same one, and the wrong way round.
func TestDays(t *testing.T) {
	for _, x := range []struct {
		start, end int
		want       api.Errno
	}{
		{1, 3652059, api.OK}, {1, 2, api.OK}, {3652058, 3652059, api.OK}, {738945, 738946, api.OK}, {738945, 739311, api.OK}, {1, 738945, api.OK}, {738945, 3652059, api.OK},
		{0, 3652059, api.ErrDay}, {0, 1, api.ErrDay}, {0, 2, api.ErrDay}, {-1, 1, api.ErrDay}, {1, 3652060, api.ErrDay}, {3652059, 3652060, api.ErrDay}, {0, 3652060, api.ErrDay}, {3652060, 3652061, api.ErrDay}, {-2, -1, api.ErrDay}, {-1, 0, api.ErrDay},
		{0, 0, api.ErrDay}, {-1, -1, api.ErrDay}, {3652060, 3652060, api.ErrDay}, {1, 0, api.ErrDay}, {1, -1, api.ErrDay}, {3652060, 3652059, api.ErrDay}, {3652060, 1, api.ErrDay}, {3652060, 0, api.ErrDay}, {738945, 0, api.ErrDay}, {3652060, 738945, api.ErrDay},
		{1, 1, api.ErrOrder}, {3652059, 3652059, api.ErrOrder}, {738945, 738945, api.ErrOrder}, {2, 1, api.ErrOrder}, {3652059, 3652058, api.ErrOrder}, {738946, 738945, api.ErrOrder}, {3652059, 1, api.ErrOrder}, {739311, 738945, api.ErrOrder},
	} {
		y := example()
		y.Start, y.End = x.start, x.end
		check(t, y, x.want)
	}
	for _, none := range noDays {
		for _, n := range append([]int{1, 2, 738945, 3652058, 3652059}, noDays...) {
			x := example()
			x.Start, x.End = none, n
			check(t, x, api.ErrDay)
			x.Start, x.End = n, none
			check(t, x, api.ErrDay)
		}
	}
	for a := 738940; a <= 738950; a++ {
		for b := 738940; b <= 738950; b++ {
			x := example()
			x.Start, x.End = a, b
			check(t, x, wanted(x))
		}
	}
}

// TestMoney is of P15.2: Money from 1 to 10^15, and not beyond.
func TestMoney(t *testing.T) {
	for _, rate := range []int{0, 1, 500, 9000} {
		for _, money := range []int{1, 2, 3, 100, 100000, 1 << 31, 1 << 32, 1 << 49, mostMoney / 2, mostMoney - 1, mostMoney} {
			x := example()
			x.Money, x.Rate = money, rate
			check(t, x, api.OK)
		}
		for _, money := range noMoneys {
			x := example()
			x.Money, x.Rate = money, rate
			check(t, x, api.ErrBound)
		}
	}
}

// TestRate is of P15.2: Rate from 0 to 10^6, and not beyond.
func TestRate(t *testing.T) {
	for _, money := range []int{1, 100000, mostBoth / mostRate} {
		for _, rate := range []int{0, 1, 2, 500, 9999, 10000, 10001, 65535, 65536, mostRate - 1, mostRate} {
			x := example()
			x.Money, x.Rate = money, rate
			check(t, x, api.OK)
		}
		for _, rate := range noRates {
			x := example()
			x.Money, x.Rate = money, rate
			check(t, x, api.ErrBound)
		}
	}
}

// TestBoth is of P15.2: Money times Rate is at most 9 times 10^18, be the product ever so great.
func TestBoth(t *testing.T) {
	for _, x := range []struct {
		money, rate int
		want        api.Errno
	}{
		{mostMoney, 9000, api.OK}, {mostMoney, 9001, api.ErrBound}, {mostMoney - 1, 9001, api.ErrBound}, {mostMoney, 8999, api.OK}, {mostMoney - 1, 9000, api.OK},
		{9000000000000, mostRate, api.OK}, {9000000000001, mostRate, api.ErrBound}, {9000000000000, mostRate - 1, api.OK}, {9000000000001, mostRate - 1, api.OK}, {9000009000009, mostRate - 1, api.OK}, {9000009000010, mostRate - 1, api.ErrBound},
		{3000000000000, 3 * mostRate, api.ErrBound}, {mostMoney, 0, api.OK}, {1, mostRate, api.OK}, {900000000000000, 10000, api.OK}, {900000000000001, 10000, api.ErrBound}, {899999999999999, 10001, api.ErrBound}, {899910008999100, 10001, api.OK}, {899910008999101, 10001, api.ErrBound},
		// The product doesn't fit: just beyond 2^63, at 2^64 and a little more, where it would go round to little, and the greatest one.
		{922337203685477, 10000, api.ErrBound}, {922337203685478, 10000, api.ErrBound}, {18446744073710, mostRate, api.ErrBound}, {1 << 49, 1 << 15, api.ErrBound}, {1 << 48, 1 << 16, api.ErrBound}, {1 << 49, 1 << 19, api.ErrBound}, {1 << 46, 1 << 18, api.ErrBound}, {1 << 45, 1 << 19, api.ErrBound},
		{1<<46 + 1, 1 << 18, api.ErrBound}, {1<<45 + 1, 1 << 19, api.ErrBound}, {mostMoney, mostRate, api.ErrBound}, {mostMoney, mostRate - 1, api.ErrBound}, {mostMoney - 1, mostRate, api.ErrBound}, {1000000000000000, 18447, api.ErrBound}, {999999999999999, 36894, api.ErrBound},
		// 2^63 is above the bound, and so is what is between both.
		{1 << 49, 1 << 14, api.ErrBound}, {1 << 44, 1 << 19, api.ErrBound}, {9000000000001, mostRate, api.ErrBound}, {9100000000000, mostRate, api.ErrBound},
	} {
		y := example()
		y.Money, y.Rate = x.money, x.rate
		if got := wanted(y); got != x.want {
			t.Fatal(x, got)
		}
		check(t, y, x.want)
	}
}

// TestBothAtEachRate is of P15.2: the most money that a rate lets be, and one more.
func TestBothAtEachRate(t *testing.T) {
	r := rand.New(rand.NewSource(151))
	rates := []int{8999, 9000, 9001, 9002, 9007, 10000, 18446, 18447, 99999, 100000, 123457, 524288, 999999, 1000000}
	for range 3000 {
		rates = append(rates, 1+r.Intn(mostRate))
	}
	for _, rate := range rates {
		most := int(new(big.Int).Div(big.NewInt(mostBoth), big.NewInt(int64(rate))).Int64())
		for _, money := range []int{most - 1, most, most + 1, most + 2, most * 2, min(most*3, mostMoney), mostMoney} {
			x := example()
			x.Money, x.Rate = money, rate
			check(t, x, wanted(x))
		}
	}
}

// faults are those that terms may have, in the order of P15.2, several of each, and the code of each.
func faults() []struct {
	code api.Errno
	put  []func(x *api.Terms)
} {
	type fault = struct {
		code api.Errno
		put  []func(x *api.Terms)
	}
	of := func(numbers []int, field func(x *api.Terms) *int) []func(x *api.Terms) {
		var all []func(x *api.Terms)
		for _, n := range numbers {
			all = append(all, func(x *api.Terms) { *field(x) = n })
		}
		return all
	}
	return []fault{
		{1, of([]int{-1, 3, math.MinInt, 1 << 32}, func(x *api.Terms) *int { return &x.Kind })},
		{1, of([]int{-1, 7, math.MaxInt, 1 << 32}, func(x *api.Terms) *int { return &x.Count })},
		{1, of([]int{-1, 5, math.MinInt, 1 << 32}, func(x *api.Terms) *int { return &x.Roll })},
		{1, of([]int{-1, 0, 5, 7, 11, 13, 24, math.MinInt, 1<<32 + 3}, func(x *api.Terms) *int { return &x.Months })},
		{3, of([]int{0, -1, 3652060, math.MaxInt, math.MinInt}, func(x *api.Terms) *int { return &x.Start })},
		{3, of([]int{0, -1, 3652060, math.MaxInt, math.MinInt}, func(x *api.Terms) *int { return &x.End })},
		{4, []func(x *api.Terms){
			func(x *api.Terms) { x.Start, x.End = 738945, 738945 }, func(x *api.Terms) { x.Start, x.End = 739311, 738945 }, func(x *api.Terms) { x.Start, x.End = 3652059, 1 },
		}},
		{2, of([]int{0, -1, mostMoney + 1, math.MaxInt, math.MinInt}, func(x *api.Terms) *int { return &x.Money })},
		{2, of([]int{-1, mostRate + 1, math.MaxInt, math.MinInt}, func(x *api.Terms) *int { return &x.Rate })},
		{2, []func(x *api.Terms){
			func(x *api.Terms) { x.Money, x.Rate = mostMoney, 9001 }, func(x *api.Terms) { x.Money, x.Rate = mostMoney, mostRate }, func(x *api.Terms) { x.Money, x.Rate = 1<<45, 1<<19 },
		}},
	}
}

// TestOneFault is of P15.2: each fault by itself is told by its code.
func TestOneFault(t *testing.T) {
	for _, f := range faults() {
		for _, put := range f.put {
			x := example()
			put(&x)
			if got := wanted(x); got != f.code {
				t.Fatalf("%+v: %d", x, got)
			}
			check(t, x, f.code)
		}
	}
}

// TestTwoFaults is of P15.2: of each two faults the first one's code is told, whichever was put in ahead of the other one.
func TestTwoFaults(t *testing.T) {
	all := faults()
	for i, f := range all {
		for j, g := range all {
			for _, one := range f.put {
				for _, two := range g.put {
					x := example()
					one(&x)
					two(&x)
					want := wanted(x)
					// A day and an order write into the same fields, so that the one put in last may undo the other one: of these the words alone tell.
					if undone := min(i, j) >= 4 && max(i, j) == 6; !undone && want != all[min(i, j)].code {
						t.Fatalf("%+v: %d", x, want)
					}
					check(t, x, want)
				}
			}
		}
	}
}

// TestAllFaults is of P15.2: with all faults behind one of them, that one's code is told.
func TestAllFaults(t *testing.T) {
	x := api.Terms{Kind: 3, Count: 7, Roll: 5, Months: 5, Start: 0, End: -1, Money: 0, Rate: -1}
	check(t, x, api.ErrArg)
	x.Kind = 2
	check(t, x, api.ErrArg)
	x.Count = 6
	check(t, x, api.ErrArg)
	x.Roll = 4
	check(t, x, api.ErrArg)
	x.Months = 12
	check(t, x, api.ErrDay)
	x.Start = 739311
	check(t, x, api.ErrDay)
	x.End = 738945
	check(t, x, api.ErrOrder)
	x.End = 739311
	check(t, x, api.ErrOrder)
	x.End = 739312
	check(t, x, api.ErrBound)
	x.Money = mostMoney
	check(t, x, api.ErrBound)
	x.Rate = 9001
	check(t, x, api.ErrBound)
	x.Rate = 9000
	check(t, x, api.OK)
	check(t, api.Terms{}, api.ErrArg)
	check(t, api.Terms{Months: 1}, api.ErrDay)
	check(t, api.Terms{Months: 1, Start: 1, End: 1}, api.ErrOrder)
	check(t, api.Terms{Months: 1, Start: 1, End: 2}, api.ErrBound)
	check(t, api.Terms{Months: 1, Start: 1, End: 2, Money: 1}, api.OK)
}

// one is one of some numbers by chance, those of the first list more often.
func one(r *rand.Rand, often, seldom []int) int {
	if r.Intn(12) > 0 {
		return often[r.Intn(len(often))]
	}
	return seldom[r.Intn(len(seldom))]
}

// someTerms are terms by chance: many may be, and many are near to a bound.
func someTerms(r *rand.Rand) api.Terms {
	days := []int{1, 2, 3, 738944, 738945, 738946, 3652057, 3652058, 3652059, 1 + r.Intn(lastDay), 1 + r.Intn(lastDay)}
	x := api.Terms{
		Kind: one(r, []int{0, 1, 2}, noKinds), Count: one(r, []int{0, 1, 2, 3, 4, 5, 6}, noCounts), Roll: one(r, []int{0, 1, 2, 3, 4}, noRolls), Months: one(r, []int{1, 2, 3, 4, 6, 12}, noMonths),
		Start: one(r, days, noDays), End: one(r, days, noDays), Back: r.Intn(2) == 0, Long: r.Intn(2) == 0, Eom: r.Intn(2) == 0,
		Money: one(r, []int{1, 2, 100000, mostMoney - 1, mostMoney, 1 + r.Intn(mostMoney), 9000000000000}, noMoneys), Rate: one(r, []int{0, 1, 500, 9000, 9001, mostRate - 1, mostRate, r.Intn(mostRate + 1)}, noRates),
	}
	if r.Intn(3) > 0 && x.Start > x.End {
		x.Start, x.End = x.End, x.Start
	}
	return x
}

// TestByChance is of P15.2: terms of all sorts against the chapter's words.
func TestByChance(t *testing.T) {
	r := rand.New(rand.NewSource(152))
	met := map[api.Errno]int{}
	for range 100000 {
		x := someTerms(r)
		want := wanted(x)
		met[want]++
		check(t, x, want)
	}
	for _, e := range []api.Errno{api.OK, api.ErrArg, api.ErrDay, api.ErrOrder, api.ErrBound} {
		if met[e] < 2000 {
			t.Error(met)
		}
	}
}

// TestRefusal is of P15.2: why terms may not be wraps one of four sentinels, says which part is at fault, and tells its code, also where it is wrapped again.
func TestRefusal(t *testing.T) {
	sentinels := map[api.Errno]error{api.ErrArg: errNone, api.ErrDay: errDay, api.ErrOrder: errOrder, api.ErrBound: errBound}
	told := map[string]bool{}
	for _, f := range faults() {
		for _, put := range f.put {
			x := example()
			put(&x)
			why := fault(x)
			if why == nil || code(why) != f.code || code(errors.Join(errors.New("ahead"), why)) != f.code || !strings.HasSuffix(why.Error(), ": "+sentinels[f.code].Error()) {
				t.Fatalf("fault(%+v) = %v", x, why)
			}
			for e, sentinel := range sentinels {
				if errors.Is(why, sentinel) != (e == f.code) {
					t.Errorf("fault(%+v) = %v: is it %v?", x, why, sentinel)
				}
			}
			told[why.Error()] = true
		}
	}
	if len(told) != len(faults()) {
		t.Error(told)
	}
	if why := fault(example()); why != nil || code(why) != api.OK {
		t.Error(why)
	}
}

// question is what is asked of each call, and what was answered.
type question struct {
	terms  api.Terms
	text   string
	number int
	name   string
	kind   int
	form   api.Errno
	freq   int
	code   api.Errno
}

// answered makes the calls.
func answered(x api.Terms, text string, number int) question {
	q := question{terms: x, text: text, number: number, name: Name(number), freq: Freq(number), code: Check(x)}
	q.kind, q.form = Kind(text)
	return q
}

// held holds what is answered now against what was answered ahead.
func (q question) held(t *testing.T) {
	t.Helper()
	if now := answered(q.terms, q.text, q.number); now != q {
		t.Errorf("%+v, and %+v ahead", now, q)
	}
}

// questions are calls by chance.
func questions(seed int64, many int) []question {
	r := rand.New(rand.NewSource(seed))
	words := append(texts(), "", "Level", "bulle", "equal ", "none")
	all := make([]question, many)
	for i := range all {
		all[i] = answered(someTerms(r), words[r.Intn(len(words))], one(r, []int{0, 1, 2, 3, 4, 6, 12}, noMonths))
	}
	return all
}

// TestAnyOrder is of R4: nothing is kept between calls, so that they answer alike in any order.
func TestAnyOrder(t *testing.T) {
	all := questions(153, 5000)
	r := rand.New(rand.NewSource(154))
	for range 3 {
		for _, i := range r.Perm(len(all)) {
			all[i].held(t)
			all[i].held(t)
		}
	}
}

// TestAtOnce is of R4: calls beside each other share nothing.
func TestAtOnce(t *testing.T) {
	shared := questions(155, 2000)
	var all sync.WaitGroup
	for range 8 {
		all.Go(func() {
			for _, q := range shared {
				q.held(t)
			}
		})
	}
	all.Wait()
}

// TestExample is the chapter's.
func TestExample(t *testing.T) {
	x := api.Terms{Money: 100000, Rate: 500, Start: 738945, End: 739311, Months: 3}
	check(t, x, api.OK)
	x.Months = 5
	check(t, x, api.ErrArg)
}
