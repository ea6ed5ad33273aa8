package plain

import (
	"math"
	"math/rand"
	"slices"
	"testing"

	"demurrage/api"
)

// refused holds both calls against a code, with nothing beside it.
func refused(t *testing.T, money, rate int, parts []api.Ratio, code api.Errno) {
	t.Helper()
	for name := range calls() {
		told(t, name, money, rate, parts, nil, code)
	}
}

// noMoney are amounts that no loan has.
func noMoney() []int {
	return []int{-1, -2, -greatest, math.MinInt + 1, math.MinInt, greatest + 1, greatest + 2, 2 * greatest, most, math.MaxInt}
}

// noRates are rates below 0.
func noRates() []int { return []int{-1, -2, -10000, math.MinInt + 1, math.MinInt} }

// wrongParts are fractions that aren't right.
func wrongParts() []api.Ratio {
	return []api.Ratio{{}, {N: 1}, {N: 0, D: 2}, {N: 2, D: 2}, {N: 2, D: 8}, {N: -1, D: 4}, {N: 1, D: -4}, {N: -1, D: -4}, {N: 30, D: 360}, {N: most + 1, D: 1}, {N: 1, D: most + 1}, {N: math.MinInt, D: 1}, {N: 1, D: math.MinInt}, {N: math.MaxInt, D: 1}, {N: 1, D: math.MaxInt}}
}

// quarter is a part that is right.
func quarter() api.Ratio { return api.Ratio{N: 1, D: 4} }

// with are so many quarters with another part at a place.
func with(n, place int, part api.Ratio) []api.Ratio {
	parts := alike(n, quarter())
	parts[place] = part
	return parts
}

// TestNoParts is of P19.2: no parts, or more than 1200, are refused ahead of all that is wrong beside them.
func TestNoParts(t *testing.T) {
	for _, money := range append(noMoney(), 0, 1, 1000, greatest) {
		for _, rate := range append(noRates(), 0, 500, math.MaxInt) {
			refused(t, money, rate, nil, api.ErrArg)
			refused(t, money, rate, []api.Ratio{}, api.ErrArg)
			refused(t, money, rate, wrongParts()[:0], api.ErrArg)
			for _, part := range []api.Ratio{quarter(), {}, {N: most, D: 1}} {
				refused(t, money, rate, alike(mostRows+1, part), api.ErrArg)
				refused(t, money, rate, alike(mostRows+2, part), api.ErrArg)
			}
		}
	}
	refused(t, 1000, 0, alike(1<<16, quarter()), api.ErrArg)
	heldBoth(t, 1000, 500, alike(mostRows, quarter()))
}

// TestMoney is of P19.2: money that no loan has is refused ahead of chapter 18's codes, just beside both bounds.
func TestMoney(t *testing.T) {
	for _, money := range noMoney() {
		for _, rate := range append(noRates(), 0, 500, math.MaxInt) {
			for _, n := range []int{1, 2, 3, mostRows} {
				refused(t, money, rate, alike(n, quarter()), api.ErrBound)
			}
			for _, part := range append(wrongParts(), api.Ratio{N: most, D: 1}) {
				refused(t, money, rate, []api.Ratio{part}, api.ErrBound)
				refused(t, money, rate, with(3, 2, part), api.ErrBound)
			}
		}
	}
	for _, money := range []int{0, 1, greatest - 1, greatest} {
		heldBoth(t, money, 500, alike(3, quarter()))
		heldBoth(t, money, 500, alike(mostRows, quarter()))
	}
}

// TestRate is of P19.2: a rate below 0 is chapter 18's ErrArg, even of nothing.
func TestRate(t *testing.T) {
	for _, rate := range noRates() {
		for _, money := range []int{0, 1, 1000, greatest} {
			for _, n := range []int{1, 2, 5, mostRows} {
				refused(t, money, rate, alike(n, quarter()), api.ErrArg)
				refused(t, money, rate, alike(n, api.Ratio{N: 0, D: 1}), api.ErrArg)
				refused(t, money, rate, alike(n, api.Ratio{N: most, D: 1}), api.ErrArg)
			}
		}
	}
}

// TestWrongParts is of P19.2: a part that isn't right is refused at each place, even of nothing.
func TestWrongParts(t *testing.T) {
	for _, part := range wrongParts() {
		for _, money := range []int{0, 1, 1000, greatest} {
			for _, n := range []int{1, 2, 3, 4, 7} {
				for place := range n {
					refused(t, money, 500, with(n, place, part), api.ErrArg)
					refused(t, money, 0, with(n, place, part), api.ErrArg)
				}
			}
			for _, place := range []int{0, 1, 600, mostRows - 2, mostRows - 1} {
				refused(t, money, 500, with(mostRows, place, part), api.ErrArg)
			}
		}
	}
}

// TestTooWide is of P19.2: a part that is right, but by so much that chapter 3 can't divide, is too great even of nothing.
func TestTooWide(t *testing.T) {
	const widest = 1844674407370955
	for _, money := range []int{0, 1, greatest} {
		for _, n := range []int{1, 2, 5} {
			for place := range n {
				refused(t, money, 500, with(n, place, api.Ratio{N: 1, D: widest + 1}), api.ErrOver)
				refused(t, money, 0, with(n, place, api.Ratio{N: 1, D: most}), api.ErrOver)
				heldBoth(t, money, 500, with(n, place, api.Ratio{N: 1, D: widest}))
			}
		}
	}
}

// TestFirstCode is of P19.2: of more than one thing wrong the first row's code is told.
func TestFirstCode(t *testing.T) {
	wrong, over := api.Ratio{N: 2, D: 4}, api.Ratio{N: most, D: 1}
	for n := 2; n < 7; n++ {
		for a := range n {
			for b := range a {
				parts := with(n, a, wrong)
				parts[b] = over
				refused(t, 1000, 20000, parts, api.ErrOver)
				parts[a], parts[b] = over, wrong
				refused(t, 1000, 20000, parts, api.ErrArg)
			}
		}
	}
	parts := with(mostRows, mostRows-1, wrong)
	parts[mostRows-2] = over
	refused(t, 1200, 20000, parts, api.ErrOver)
	parts[3] = api.Ratio{}
	refused(t, 1200, 20000, parts, api.ErrArg)
}

// TestInterestTooGreat is of P19.2: a row's interest is bound, by what is open in that row.
func TestInterestTooGreat(t *testing.T) {
	// Of 4 at 10000 a fourth of 2^62 is just 2^62; of 3 and 2 it isn't as much.
	just, above := api.Ratio{N: most / 4, D: 1}, api.Ratio{N: most/4 + 1, D: 1}
	for n := 2; n < 6; n++ {
		for place := range n - 1 {
			told(t, "Bullet", 4, 10000, with(n, place, above), nil, api.ErrOver)
			if e := held(t, "Bullet", 4, 10000, with(n, place, just)); e != api.OK {
				t.Fatal(n, place, e)
			}
		}
	}
	told(t, "Equal", 4, 10000, with(4, 0, above), nil, api.ErrOver)
	for place := range 3 {
		if e := held(t, "Equal", 4, 10000, with(4, place, just)); e != api.OK {
			t.Fatal(place, e)
		}
	}
	for place := 1; place < 3; place++ {
		if e := held(t, "Equal", 4, 10000, with(4, place, above)); e != api.OK {
			t.Fatal(place, e)
		}
	}
	// Of what is open in the second row, 3, a third of 2^62 and a bit, 3 times, is above it.
	told(t, "Equal", 4, 10000, with(4, 1, api.Ratio{N: most/3 + 1, D: 1}), nil, api.ErrOver)
	if e := held(t, "Equal", 4, 10000, with(4, 1, api.Ratio{N: most / 3, D: 1})); e != api.OK {
		t.Fatal(e)
	}
	// A half above 2^62 goes to the even number, which is 2^62; two above it stay there.
	told(t, "Bullet", 1, 15000, []api.Ratio{{N: most/3*2 + 1, D: 1}, {N: 0, D: 1}}, laid([][5]int{{1, most, 0, most, 1}, {1, 0, 1, 1, 0}}), api.OK)
	told(t, "Bullet", 1, 15000, []api.Ratio{{N: most/3*2 + 2, D: 1}, {N: 0, D: 1}}, nil, api.ErrOver)
}

// TestGreatestInterest is of P19.2: of rows that aren't the last one no payment is too great, be it above 2^62.
func TestGreatestInterest(t *testing.T) {
	all, half, none := api.Ratio{N: most, D: 1}, api.Ratio{N: most / 2, D: 1}, api.Ratio{N: 0, D: 1}
	told(t, "Bullet", 1, 10000, []api.Ratio{all, all, none}, laid([][5]int{{1, most, 0, most, 1}, {1, most, 0, most, 1}, {1, 0, 1, 1, 0}}), api.OK)
	told(t, "Equal", 1, 10000, []api.Ratio{all, all, none}, laid([][5]int{{1, most, 0, most, 1}, {1, most, 0, most, 1}, {1, 0, 1, 1, 0}}), api.OK)
	told(t, "Equal", 2, 10000, []api.Ratio{half, none}, laid([][5]int{{2, most, 1, most + 1, 1}, {1, 0, 1, 1, 0}}), api.OK)
	told(t, "Equal", 3, 10000, []api.Ratio{none, half, none}, laid([][5]int{{3, 0, 1, 1, 2}, {2, most, 1, most + 1, 1}, {1, 0, 1, 1, 0}}), api.OK)
	// 10^15 is 2^15 times 5^15: its interest by 2^47 at 10000 and 5^15 is just 2^62.
	great := api.Ratio{N: most >> 15, D: 30517578125}
	told(t, "Equal", greatest, 10000, []api.Ratio{great, none}, laid([][5]int{{greatest, most, greatest / 2, most + greatest/2, greatest / 2}, {greatest / 2, 0, greatest / 2, greatest / 2, 0}}), api.OK)
	told(t, "Bullet", greatest, 10000, []api.Ratio{great, none}, laid([][5]int{{greatest, most, 0, most, greatest}, {greatest, 0, greatest, greatest, 0}}), api.OK)
	refused(t, greatest, 10000, []api.Ratio{{N: great.N + 1, D: great.D}, none}, api.ErrOver)
}

// TestLastPay is of P19.2: the last row's payment is bound, just at the bound and one beside it.
func TestLastPay(t *testing.T) {
	for name := range calls() {
		told(t, name, 1, 10000, []api.Ratio{{N: most - 2, D: 1}}, laid([][5]int{{1, most - 2, 1, most - 1, 0}}), api.OK)
		told(t, name, 1, 10000, []api.Ratio{{N: most - 1, D: 1}}, laid([][5]int{{1, most - 1, 1, most, 0}}), api.OK)
		told(t, name, 1, 10000, []api.Ratio{{N: most, D: 1}}, nil, api.ErrOver)
		told(t, name, 1, 10000, []api.Ratio{quarter(), quarter(), {N: most - 1, D: 1}}, laid([][5]int{{1, 0, 0, 0, 1}, {1, 0, 0, 0, 1}, {1, most - 1, 1, most, 0}}), api.OK)
		told(t, name, 1, 10000, []api.Ratio{quarter(), quarter(), {N: most, D: 1}}, nil, api.ErrOver)
	}
	// What goes up to the bound is the interest of what is open in the last row, and that.
	told(t, "Bullet", 4, 10000, with(4, 3, api.Ratio{N: most/4 - 1, D: 1}), laid([][5]int{{4, 1, 0, 1, 4}, {4, 1, 0, 1, 4}, {4, 1, 0, 1, 4}, {4, most - 4, 4, most, 0}}), api.OK)
	told(t, "Bullet", 4, 10000, with(4, 3, api.Ratio{N: most - 3, D: 4}), nil, api.ErrOver)
	told(t, "Bullet", 4, 10000, with(4, 3, api.Ratio{N: most / 4, D: 1}), nil, api.ErrOver)
	if e := held(t, "Equal", 4, 10000, with(4, 3, api.Ratio{N: most / 4, D: 1})); e != api.OK {
		t.Error(e)
	}
	refused(t, 1200, 10000, with(mostRows, mostRows-1, api.Ratio{N: most, D: 1}), api.ErrOver)
}

// TestLastPayOfTheGreatest is of P19.2: likewise of the most that may be open.
func TestLastPayOfTheGreatest(t *testing.T) {
	// 10^15 - 1 has no factor of 2, so that it and these numbers make fractions in lowest terms.
	const money = greatest - 1
	just, above := api.Ratio{N: most - money, D: money}, api.Ratio{N: most - money + 1, D: money}
	for name := range calls() {
		told(t, name, money, 10000, []api.Ratio{just}, laid([][5]int{{money, most - money, money, most, 0}}), api.OK)
		told(t, name, money, 10000, []api.Ratio{above}, nil, api.ErrOver)
	}
	told(t, "Bullet", money, 10000, []api.Ratio{{N: 0, D: 1}, just}, laid([][5]int{{money, 0, 0, 0, money}, {money, most - money, money, most, 0}}), api.OK)
	told(t, "Bullet", money, 10000, []api.Ratio{{N: 0, D: 1}, above}, nil, api.ErrOver)
	// Interest alone isn't too great there.
	told(t, "Bullet", money, 10000, []api.Ratio{above, {N: 0, D: 1}}, laid([][5]int{{money, most - money + 1, 0, most - money + 1, money}, {money, 0, money, money, 0}}), api.OK)
}

// TestLastPayIsTold is of P19.2: chapter 18's code of an earlier row, or of the last one, is told ahead of the last row's payment.
func TestLastPayIsTold(t *testing.T) {
	all := api.Ratio{N: most, D: 1}
	for n := 2; n < 6; n++ {
		for place := range n - 1 {
			for _, part := range wrongParts() {
				parts := with(n, n-1, all)
				parts[place] = part
				refused(t, 1, 10000, parts, api.ErrArg)
			}
		}
	}
	// A last row whose part isn't right has no payment.
	refused(t, 1, 10000, []api.Ratio{quarter(), {N: most, D: 2}}, api.ErrArg)
	refused(t, 1, -1, []api.Ratio{all}, api.ErrArg)
	refused(t, greatest+1, 10000, []api.Ratio{all}, api.ErrBound)
}

// TestCodesByChance is of P19.2: whatever is wrong, the words tell which code it is.
func TestCodesByChance(t *testing.T) {
	r := rand.New(rand.NewSource(192))
	odd := append(wrongParts(), api.Ratio{N: most, D: 1}, api.Ratio{N: most - 1, D: 1}, api.Ratio{N: most / 2, D: 1}, api.Ratio{N: most / 3, D: 1}, api.Ratio{N: 1, D: most}, api.Ratio{N: most, D: 1844674407370955})
	moneys := append(noMoney(), 0, 1, 2, 3, 1000, greatest)
	rates := append(noRates(), 0, 1, 10000, 20000, math.MaxInt)
	codes := map[api.Errno]int{}
	for range 20000 {
		money, rate, parts := r.Intn(5), 10000, someParts(r, r.Intn(8))
		if r.Intn(4) == 0 {
			money = moneys[r.Intn(len(moneys))]
		}
		if r.Intn(4) == 0 {
			rate = rates[r.Intn(len(rates))]
		}
		for range r.Intn(3) {
			if len(parts) > 0 {
				parts[r.Intn(len(parts))] = odd[r.Intn(len(odd))]
			}
		}
		if r.Intn(200) == 0 {
			parts = slices.Concat(parts, alike(mostRows-3, quarter()))
		}
		for name := range calls() {
			codes[held(t, name, money, rate, parts)]++
		}
	}
	for _, code := range []api.Errno{api.OK, api.ErrArg, api.ErrBound, api.ErrOver} {
		if codes[code] < 500 {
			t.Error(code, codes)
		}
	}
}
