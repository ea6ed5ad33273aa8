package level

import (
	"math"
	"math/rand"
	"slices"
	"testing"

	"demurrage/api"
)

// noMoney are amounts that no loan has.
func noMoney() []int {
	return []int{math.MinInt, math.MinInt + 1, -most, -greatest, -2, -1, greatest + 1, greatest + 2, 2 * greatest, most, math.MaxInt}
}

// belowNothing are rates and payments that may not be.
func belowNothing() []int { return []int{math.MinInt, math.MinInt + 1, -most, -10000, -2, -1} }

// wrongParts are fractions that aren't right.
func wrongParts() []api.Ratio {
	var wrong []api.Ratio
	for _, n := range [][2]int{{0, 0}, {1, 0}, {0, 2}, {2, 2}, {2, 4}, {90, 360}, {-1, 4}, {1, -4}, {-1, -4}, {most + 1, 1}, {1, most + 1}, {math.MinInt, 1}, {1, math.MinInt}, {math.MaxInt, 1}, {1, math.MaxInt}} {
		wrong = append(wrong, api.Ratio{N: n[0], D: n[1]})
	}
	return wrong
}

// put is what was lent with other parts from a place on.
func (l lent) put(place int, parts ...api.Ratio) lent {
	return lent{l.money, l.rate, slices.Concat(l.parts[:place], parts, l.parts[place+len(parts):])}
}

// refusedBelow is refused, and likewise where the payment is below 0.
func (l lent) refusedBelow(t *testing.T, code, below api.Errno) {
	t.Helper()
	l.refused(t, code)
	for _, pay := range belowNothing() {
		l.asked(t, pay, false, below)
	}
}

// TestNoParts is of P20.2: no parts, or more than 1200, are refused ahead of all that is wrong beside them.
func TestNoParts(t *testing.T) {
	moneys, rates := append(noMoney(), 0, 1, 1000, greatest), append(belowNothing(), 0, 500, math.MaxInt)
	for _, part := range []api.Ratio{{N: 1, D: 4}, {}, {N: most, D: 1}} {
		none, more, many := []api.Ratio{}, repeated(part, mostRows+1), repeated(part, 2*mostRows)
		for _, money := range moneys {
			for _, rate := range rates {
				for _, parts := range [][]api.Ratio{nil, none, many[:0], more, many} {
					lent{money, rate, parts}.refusedBelow(t, api.ErrArg, api.ErrArg)
				}
			}
		}
	}
	lent{1000, 500, repeated(api.Ratio{N: 1, D: 4}, 1<<16)}.refusedBelow(t, api.ErrArg, api.ErrArg)
	quarterly(1000, 500, mostRows).held(t)
	quarterly(1000, 500, mostRows).asked(t, -1, false, api.ErrBound)
}

// TestBounds is of P20.2: money that no loan has, and a payment below 0, are refused ahead of chapter 18's codes and of what is too great together.
func TestBounds(t *testing.T) {
	for _, rate := range append(belowNothing(), 0, 500, math.MaxInt) {
		for _, money := range noMoney() {
			quarterly(money, rate, 1).refusedBelow(t, api.ErrBound, api.ErrBound)
			quarterly(money, rate, mostRows).refusedBelow(t, api.ErrBound, api.ErrBound)
			for _, part := range append(wrongParts(), api.Ratio{N: most, D: 1}) {
				quarterly(money, rate, 4).put(2, part).refusedBelow(t, api.ErrBound, api.ErrBound)
			}
		}
		for _, money := range []int{0, 1, 1000, greatest} {
			for _, part := range append(wrongParts(), api.Ratio{N: most, D: 1}, api.Ratio{N: 1, D: 4}) {
				for _, pay := range belowNothing() {
					quarterly(money, rate, 4).put(1, part).asked(t, pay, false, api.ErrBound)
					at(money, rate, part).asked(t, pay, false, api.ErrBound)
				}
			}
		}
	}
	for _, money := range []int{0, 1, greatest - 1, greatest} {
		quarterly(money, 500, 5).held(t)
		quarterly(money, 500, mostRows).held(t)
	}
}

// TestRate is of P20.2: a rate below 0 is chapter 18's ErrArg, even of nothing.
func TestRate(t *testing.T) {
	for _, rate := range belowNothing() {
		for _, money := range []int{0, 1, 1000, greatest} {
			for _, part := range append(wrongParts(), api.Ratio{N: 1, D: 4}, api.Ratio{N: 0, D: 1}, api.Ratio{N: most, D: 1}) {
				for _, n := range []int{1, 2, 5} {
					lent{money, rate, repeated(part, n)}.refusedBelow(t, api.ErrArg, api.ErrBound)
				}
			}
			quarterly(money, rate, mostRows).refusedBelow(t, api.ErrArg, api.ErrBound)
		}
	}
}

// TestWrongParts is of P20.2: a part that isn't right is refused at each place, even of nothing, and one by too great a number likewise.
func TestWrongParts(t *testing.T) {
	const widest = 1844674407370955
	for _, money := range []int{0, 1, 1000, greatest} {
		for _, n := range []int{1, 2, 3, 4, 7, mostRows} {
			for _, place := range []int{0, 1, 2, n / 2, n - 2, n - 1} {
				if place < 0 || place >= n {
					continue
				}
				for _, part := range wrongParts() {
					quarterly(money, 500, n).put(place, part).refusedBelow(t, api.ErrArg, api.ErrBound)
					quarterly(money, 0, n).put(place, part).refused(t, api.ErrArg)
				}
				quarterly(money, 500, n).put(place, api.Ratio{N: 1, D: widest + 1}).refusedBelow(t, api.ErrOver, api.ErrBound)
				quarterly(money, 0, n).put(place, api.Ratio{N: 1, D: most}).refused(t, api.ErrOver)
				quarterly(money, 500, n).put(place, api.Ratio{N: 1, D: widest}).held(t)
			}
		}
	}
}

// TestInterestTooGreat is of P20.2: interest of all the money is bound at each place, though nothing may be open there any more.
func TestInterestTooGreat(t *testing.T) {
	for _, n := range []int{1, 2, 3, 6, mostRows} {
		for _, place := range []int{0, n / 2, n - 1} {
			// Of 4 at 10000, once more than a fourth of 2^62.
			quarterly(4, 10000, n).put(place, api.Ratio{N: most/4 + 1, D: 1}).refusedBelow(t, api.ErrOver, api.ErrBound)
			quarterly(greatest, 10000, n).put(place, api.Ratio{N: 4612, D: 1}).refusedBelow(t, api.ErrOver, api.ErrBound)
			quarterly(1, 10001, n).put(place, api.Ratio{N: most, D: 1}).refusedBelow(t, api.ErrOver, api.ErrBound)
			quarterly(1, math.MaxInt, n).put(place, api.Ratio{N: most, D: 1}).refused(t, api.ErrOver)
			quarterly(greatest, 10000, n).put(place, api.Ratio{N: 4610, D: 1}).held(t)
		}
	}
	yearly(greatest, math.MaxInt, 3).refused(t, api.ErrOver)
}

// TestFirstCode is of P20.2: of more than one part with a code the first one's is told, and that ahead of what is too great together.
func TestFirstCode(t *testing.T) {
	wrong, over, all := api.Ratio{N: 2, D: 4}, api.Ratio{N: most, D: 3}, api.Ratio{N: most/4 - 1, D: 1}
	for n := 2; n < 7; n++ {
		for a := range n {
			for b := range a {
				l := quarterly(4, 100000, n)
				l.put(a, wrong).put(b, over).refused(t, api.ErrOver)
				l.put(a, over).put(b, wrong).refused(t, api.ErrArg)
				// 4 and 2^62 less 4 are just 2^62, one more is too much, and yet has no code of its own.
				l.rate = 10000
				l.put(a, wrong).put(b, api.Ratio{N: most / 4, D: 1}).refused(t, api.ErrArg)
				l.put(b, wrong).put(a, api.Ratio{N: most / 4, D: 1}).refused(t, api.ErrArg)
				l.put(a, all).put(b, api.Ratio{N: most / 4, D: 1}).refused(t, api.ErrOver)
				l.put(b, all).put(a, all).held(t)
			}
		}
	}
	many := quarterly(4, 100000, mostRows).put(mostRows-2, over, wrong)
	many.refused(t, api.ErrOver)
	many.put(7, api.Ratio{}).refused(t, api.ErrArg)
	many.put(0, over).refused(t, api.ErrOver)
}

// TestTogether is of P20.2: money and its greatest interest, just 2^62, and one above it, at each place.
func TestTogether(t *testing.T) {
	// 10^15 - 1 has no factor of 2, so that it and these numbers make fractions in lowest terms.
	const odd = greatest - 1
	for _, c := range []struct {
		money       int
		just, above api.Ratio
	}{
		{1, api.Ratio{N: most - 1, D: 1}, api.Ratio{N: most, D: 1}},
		{4, api.Ratio{N: most/4 - 1, D: 1}, api.Ratio{N: most / 4, D: 1}},
		{4, api.Ratio{N: most/4 - 1, D: 1}, api.Ratio{N: most - 3, D: 4}},
		{odd, api.Ratio{N: most - odd, D: odd}, api.Ratio{N: most - odd + 1, D: odd}},
	} {
		for _, n := range []int{1, 2, 3, 6, mostRows} {
			for _, place := range []int{0, n / 2, n - 1} {
				quarterly(c.money, 10000, n).put(place, c.just).held(t)
				quarterly(c.money, 10000, n).put(place, c.above).refusedBelow(t, api.ErrOver, api.ErrBound)
			}
			lent{c.money, 10000, repeated(c.just, n)}.held(t)
			lent{c.money, 10000, repeated(c.above, n)}.refused(t, api.ErrOver)
		}
		at(c.money, 10000, c.just).told(t, most, laid([5]int{c.money, most - c.money, c.money, most, 0}), api.OK)
		at(c.money, 10000, c.just, api.Ratio{N: 0, D: 1}).told(t, c.money, laid([5]int{c.money, most - c.money, 0, most - c.money, c.money}, [5]int{c.money, 0, c.money, c.money, 0}), api.OK)
	}
	// Of nothing the greatest part is no interest.
	at(0, 10000, api.Ratio{N: most, D: 1}).told(t, 0, make([]api.Row, 1), api.OK)
}

// TestCodesByChance is of P20.2: whatever is wrong, the words tell which code it is.
func TestCodesByChance(t *testing.T) {
	r := rand.New(rand.NewSource(204))
	pick := func(all []int) int { return all[r.Intn(len(all))] }
	moneys, rates := append(noMoney(), 0, 1, 2, 3, 1000, greatest), append(belowNothing(), 0, 1, 10000, 20000, math.MaxInt)
	odd := wrongParts()
	for _, n := range []int{1, 2, 3, 4} {
		odd = append(odd, api.Ratio{N: most / n, D: 1}, api.Ratio{N: most/n - 1, D: 1}, api.Ratio{N: most/n - 2, D: 1}, api.Ratio{N: 1, D: most / n})
	}
	met := map[api.Errno]int{}
	for range 20000 {
		l := lent{r.Intn(5), 10000, someParts(r, r.Intn(8))}
		if r.Intn(4) == 0 {
			l.money = pick(moneys)
		}
		if r.Intn(4) == 0 {
			l.rate = pick(rates)
		}
		for i := range l.parts {
			if r.Intn(5) == 0 {
				l.parts[i] = odd[r.Intn(len(odd))]
			}
		}
		if r.Intn(200) == 0 {
			l.parts = append(l.parts, quarterly(0, 0, mostRows-3).parts...)
		}
		l.held(t)
		met[l.code()]++
		below := api.ErrBound
		if len(l.parts) == 0 || len(l.parts) > mostRows {
			below = api.ErrArg
		}
		l.asked(t, pick(belowNothing()), false, below)
	}
	for _, code := range []api.Errno{api.OK, api.ErrArg, api.ErrBound, api.ErrOver} {
		if met[code] < 500 {
			t.Error(code, met)
		}
	}
}
