package accrue

import (
	"math"
	"math/big"
	"math/rand"
	"slices"
	"testing"

	"demurrage/api"
	"demurrage/ratio"
	"demurrage/round"
)

const (
	most = 1 << 62
	// widest is the greatest number by which 10000 is multiplied to less than 2^64.
	widest = 1844674407370955
)

// amounts are what may be open, rising, from the least to the greatest.
func amounts() []int {
	return []int{0, 1, 2, 3, 5, 7, 99, 1000, 3000, 10000, 100000, 1<<31 - 1, 1 << 31, 1<<32 + 1, 900000000000, 999999999999999, 1000000000000000, 1000000000000001, 9000000000000000000 / 3, most - 1, most, most + 1, 9000000000000000000, math.MaxInt - 1, math.MaxInt}
}

// rates are such that may be, rising, from the least to the greatest.
func rates() []int {
	return []int{0, 1, 2, 3, 25, 499, 500, 501, 1000, 4999, 5000, 5001, 9999, 10000, 10001, 20000, 999999, 1000000, 1000001, 1 << 32, most - 1, most, most + 1, math.MaxInt - 1, math.MaxInt}
}

// rightParts are fractions in lowest terms, from the least to the greatest, not all of them rising.
func rightParts() []api.Ratio {
	return []api.Ratio{
		{N: 0, D: 1}, {N: 1, D: most}, {N: 3, D: most}, {N: 1, D: widest + 1}, {N: 1, D: widest}, {N: 1, D: widest - 1}, {N: 1, D: 1 << 31}, {N: 1, D: 366}, {N: 731, D: 133590}, {N: 1, D: 365}, {N: 29, D: 360}, {N: 1, D: 12}, {N: 1, D: 4}, {N: 91, D: 360},
		{N: widest / 2, D: widest}, {N: 1, D: 2}, {N: widest/2 + 1, D: widest}, {N: 2, D: 3}, {N: widest - 1, D: widest}, {N: most - 1, D: most}, {N: 1, D: 1}, {N: most, D: most - 1}, {N: 366, D: 365}, {N: 3, D: 2}, {N: 16, D: 1}, {N: 5000, D: 1}, {N: 1826029, D: 180}, {N: 1 << 31, D: 3}, {N: most - 1, D: 2}, {N: most - 1, D: 1}, {N: most, D: 1},
	}
}

// wrongParts are fractions that aren't right: not in lowest terms, by 0 or by less, below 0, beyond the bounds.
func wrongParts() []api.Ratio {
	return []api.Ratio{
		{N: 2, D: 2}, {N: 2, D: 4}, {N: 6, D: 4}, {N: 30, D: 360}, {N: 4, D: 2}, {N: 0, D: 2}, {N: 0, D: 360}, {N: 0, D: most}, {N: most, D: most}, {N: most, D: 2}, {N: 2, D: most}, {N: most - 1, D: most - 1}, {N: 3, D: 3 * widest},
		{}, {N: 1, D: 0}, {N: 2, D: 0}, {N: most, D: 0}, {N: 0, D: -1}, {N: 1, D: -1}, {N: 1, D: -4}, {N: 1, D: -most}, {N: 1, D: math.MinInt}, {N: 0, D: math.MinInt},
		{N: -1, D: 1}, {N: -1, D: 4}, {N: -3, D: 2}, {N: -most, D: 1}, {N: math.MinInt, D: 1}, {N: math.MinInt + 1, D: 1}, {N: -1, D: -1}, {N: -1, D: -4}, {N: -1, D: 0}, {N: math.MinInt, D: math.MinInt}, {N: math.MinInt, D: 0},
		{N: most + 1, D: 1}, {N: most + 1, D: 2}, {N: 1, D: most + 1}, {N: 3, D: most + 1}, {N: most + 1, D: most}, {N: most, D: most + 1}, {N: math.MaxInt, D: 1}, {N: 1, D: math.MaxInt}, {N: math.MaxInt, D: math.MaxInt - 1}, {N: math.MaxInt, D: math.MaxInt}, {N: 0, D: math.MaxInt}, {N: math.MaxInt, D: 0}, {N: -1, D: math.MaxInt}, {N: math.MaxInt, D: -1},
	}
}

// isRight is chapter 2's word, by numbers of any size.
func isRight(part api.Ratio) bool {
	if part.N < 0 || part.D < 1 || part.N > most || part.D > most {
		return false
	}
	return new(big.Int).GCD(nil, nil, big.NewInt(int64(part.N)), big.NewInt(int64(part.D))).Int64() == 1
}

// times is a product of any size.
func times(numbers ...int) *big.Int {
	product := big.NewInt(1)
	for _, n := range numbers {
		product.Mul(product, big.NewInt(int64(n)))
	}
	return product
}

// wanted is P18.1, word by word, and chapter 3's Part, by numbers of any size.
func wanted(open, rate int, part api.Ratio) (int, api.Errno) {
	if open < 0 || rate < 0 || !isRight(part) {
		return 0, api.ErrArg
	}
	top, bottom := times(open, rate, part.N), times(10000, part.D)
	if top.BitLen() > 128 || bottom.BitLen() > 64 {
		return 0, api.ErrOver
	}
	often, left := new(big.Int).QuoRem(top, bottom, new(big.Int))
	half := left.Lsh(left, 1).Cmp(bottom)
	if half > 0 || half == 0 && often.Bit(0) == 1 {
		often.Add(often, big.NewInt(1))
	}
	if often.Cmp(big.NewInt(most)) > 0 {
		return 0, api.ErrOver
	}
	return int(often.Int64()), api.OK
}

// answered holds Of against what it should answer.
func answered(t *testing.T, open, rate int, part api.Ratio, want int, code api.Errno) {
	t.Helper()
	if got, e := Of(open, rate, part); got != want || e != code {
		t.Fatalf("Of(%d, %d, %v) = %d, %d, not %d, %d", open, rate, part, got, e, want, code)
	}
}

// held holds Of against the chapter's words, and answers its code.
func held(t *testing.T, open, rate int, part api.Ratio) api.Errno {
	t.Helper()
	want, code := wanted(open, rate, part)
	answered(t, open, rate, part, want, code)
	return code
}

// number is one of any size, from 0 on, by chance.
func number(r *rand.Rand) int { return int(r.Uint64()>>1) >> uint(r.Intn(63)) }

// rightPart is a fraction in lowest terms, by chance: as great as it may be, or such as two days tell.
func rightPart(r *rand.Rand) api.Ratio {
	for {
		n, d := number(r), 1+number(r)/4
		if r.Intn(2) == 0 {
			n, d = r.Intn(2000), 1+r.Intn(140000)
		}
		if part, e := ratio.New(n, d); e == api.OK {
			return part
		}
	}
}

// TestConstants are those that the document tells.
func TestConstants(t *testing.T) {
	for i, code := range []api.Errno{api.OK, api.ErrArg, api.ErrBound, api.ErrDay, api.ErrOrder, api.ErrSide, api.ErrOver} {
		if int(code) != i {
			t.Errorf("code %d is %d", i, code)
		}
	}
	for i, kind := range []int{api.CUS, api.CE, api.CISDA, api.CA360, api.CA365, api.CAA, api.CICMA} {
		if kind != i {
			t.Errorf("way %d is %d", i, kind)
		}
	}
	if api.MaxNum != most || api.MaxMoney != 1000000000000000 || api.MaxRate != 1000000 {
		t.Error(api.MaxNum, api.MaxMoney, api.MaxRate)
	}
}

// TestParts holds the lists of fractions that other tests go through against chapter 2.
func TestParts(t *testing.T) {
	for _, part := range rightParts() {
		if !isRight(part) || !ratio.Right(part) {
			t.Errorf("%v isn't right", part)
		}
	}
	for _, part := range wrongParts() {
		if isRight(part) || ratio.Right(part) {
			t.Errorf("%v is right", part)
		}
	}
}

// TestOf is of P18.1: all amounts at all rates for all parts, by the chapter's words and by chapter 3's Part itself.
func TestOf(t *testing.T) {
	met := map[api.Errno]int{}
	for _, open := range amounts() {
		for _, rate := range rates() {
			for _, part := range rightParts() {
				met[held(t, open, rate, part)]++
				want, code := round.Part(open, rate, part, 10000)
				answered(t, open, rate, part, want, code)
			}
		}
	}
	if len(met) != 2 || met[api.OK] < 1000 || met[api.ErrOver] < 1000 {
		t.Error(met)
	}
}

// TestOfByChance is of P18.1: numbers of all sizes, below 0 too, and fractions that aren't right among others.
func TestOfByChance(t *testing.T) {
	r := rand.New(rand.NewSource(181))
	met := map[api.Errno]int{}
	for range 200000 {
		open, rate, part := number(r), number(r), rightPart(r)
		switch r.Intn(8) {
		case 0:
			open = -open
		case 1:
			rate = -rate
		case 2:
			part = api.Ratio{N: number(r) - number(r), D: number(r) - number(r)}
		case 3, 4, 5:
			open, rate = r.Intn(1000000000000001), r.Intn(1000001)
		}
		met[held(t, open, rate, part)]++
	}
	for _, code := range []api.Errno{api.OK, api.ErrArg, api.ErrOver} {
		if met[code] < 10000 {
			t.Error(met)
		}
	}
}

// TestNothing is of P18.1: of 0, at a rate of 0, and for a part of 0 there is no interest.
func TestNothing(t *testing.T) {
	for _, part := range rightParts() {
		if part.D > widest {
			continue
		}
		for _, n := range amounts() {
			answered(t, 0, n, part, 0, api.OK)
			answered(t, n, 0, part, 0, api.OK)
			answered(t, 0, 0, part, 0, api.OK)
		}
	}
	for _, open := range amounts() {
		for _, rate := range rates() {
			answered(t, open, rate, api.Ratio{N: 0, D: 1}, 0, api.OK)
		}
	}
}

// below are numbers below 0.
func below() []int {
	return []int{-1, -2, -500, -10000, -100000, -1 << 31, -1 << 32, -1000000000000000, -most, math.MinInt + 1, math.MinInt}
}

// TestBelow is of P18.1: what is below 0, at either place and at both, is ErrArg, ahead of what would be too great.
func TestBelow(t *testing.T) {
	parts := append(rightParts(), wrongParts()...)
	for _, low := range below() {
		for _, part := range parts {
			for _, n := range append(amounts(), below()...) {
				answered(t, low, n, part, 0, api.ErrArg)
				answered(t, n, low, part, 0, api.ErrArg)
			}
		}
	}
}

// TestWrongParts is of P18.1: a part that isn't right is ErrArg, whatever is open, at whichever rate.
func TestWrongParts(t *testing.T) {
	for _, part := range wrongParts() {
		for _, open := range amounts() {
			for _, rate := range rates() {
				answered(t, open, rate, part, 0, api.ErrArg)
			}
		}
	}
	// All small fractions: those that no number above 1 divides are right.
	for n := -5; n <= 60; n++ {
		for d := -5; d <= 60; d++ {
			part := api.Ratio{N: n, D: d}
			if e := held(t, 100000, 500, part); (e == api.OK) != isRight(part) {
				t.Errorf("Of %v: %d", part, e)
			}
		}
	}
}

// TestBounds is of P18.1: chapter 3's bounds, just at them and one beside them, and nothing beside their code.
func TestBounds(t *testing.T) {
	one := api.Ratio{N: 1, D: 1}
	for _, c := range []struct {
		name       string
		open, rate int
		part       api.Ratio
		want       int
		code       api.Errno
	}{
		{"MaxNum", most, 10000, one, most, 0},
		{"one below MaxNum", most - 1, 10000, one, most - 1, 0},
		{"one above MaxNum", most + 1, 10000, one, 0, 6},
		{"MaxNum by the rate", 10000, most, one, most, 0},
		{"one above MaxNum by the rate", 10000, most + 1, one, 0, 6},
		{"MaxNum by the part", 10000, 1, api.Ratio{N: most, D: 1}, most, 0},
		{"two times MaxNum by the part", 10000, 2, api.Ratio{N: most, D: 1}, 0, 6},
		{"a half below MaxNum", math.MaxInt, 5000, one, most, 0},
		{"a half below MaxNum by the part", math.MaxInt, 10000, api.Ratio{N: 1, D: 2}, most, 0},
		{"a half above MaxNum", 77158673929, 10000, api.Ratio{N: (2*most + 1) / 77158673929, D: 2}, most, 0},
		{"a third above MaxNum", 952469857, 10000, api.Ratio{N: (3*most + 1) / 952469857, D: 3}, most, 0},
		{"two thirds above MaxNum", 5135573, 10000, api.Ratio{N: (3*most + 2) / 5135573, D: 3}, 0, 6},
		{"2^128, by the greatest", most, most, api.Ratio{N: 16, D: 1}, 0, 6},
		{"2^128, by 10000 times the widest", most, most, api.Ratio{N: 16, D: widest}, 0, 6},
		{"2^186, which goes round to 0", most, most, api.Ratio{N: most, D: 1}, 0, 6},
		{"2^128 and 2^64", 1 << 61, 1 << 32, api.Ratio{N: 1<<35 + 1, D: 1 << 10}, 0, 6},
		{"the greatest of all", math.MaxInt, math.MaxInt, api.Ratio{N: most, D: 1}, 0, 6},
		{"the widest part", 1 << 40, 1 << 40, api.Ratio{N: 1, D: widest}, 65536, 0},
		{"the widest part of nothing", 0, 0, api.Ratio{N: 1, D: widest}, 0, 0},
		{"a part too wide", 1 << 40, 1 << 40, api.Ratio{N: 1, D: widest + 1}, 0, 6},
		{"a part too wide, of nothing", 0, 500, api.Ratio{N: 1, D: widest + 1}, 0, 6},
		{"a part too wide, at a rate of 0", 100000, 0, api.Ratio{N: 1, D: widest + 1}, 0, 6},
		{"the widest right part", 0, 0, api.Ratio{N: 1, D: most}, 0, 6},
		{"the widest right part, near 1", 0, 0, api.Ratio{N: most - 1, D: most}, 0, 6},
		{"most money at the greatest rate, a year", 1000000000000000, 1000000, one, 100000000000000000, 0},
		{"most money at the greatest rate, 46 years", 1000000000000000, 1000000, api.Ratio{N: 46, D: 1}, 4600000000000000000, 0},
		{"most money at the greatest rate, 47 years", 1000000000000000, 1000000, api.Ratio{N: 47, D: 1}, 0, 6},
		{"most money at 9000, all days", 1000000000000000, 9000, api.Ratio{N: 1826029, D: 180}, 0, 6},
	} {
		if got, e := Of(c.open, c.rate, c.part); got != c.want || e != c.code {
			t.Errorf("%s: %d, %d", c.name, got, e)
		}
		held(t, c.open, c.rate, c.part)
	}
}

// TestTold is of P18.1: interest that is reckoned by hand.
func TestTold(t *testing.T) {
	year, quarter := api.Ratio{N: 1, D: 1}, api.Ratio{N: 1, D: 4}
	for _, c := range []struct {
		open, rate int
		part       api.Ratio
		want       int
	}{
		{100000, 500, year, 5000}, {100000, 500, quarter, 1250}, {1, 10000, year, 1}, {12345, 10000, year, 12345}, {12345, 20000, year, 24690},
		{10000, 1, year, 1}, {100000000, 1, api.Ratio{N: 1, D: 365}, 27}, {365000000, 1, api.Ratio{N: 1, D: 365}, 100}, {123456, 725, api.Ratio{N: 31, D: 360}, 771}, {123456, 725, api.Ratio{N: 731, D: 133590}, 49},
		// Halves go to the even one: .5, 1.5, 2.5, 3.5, 11.5, 12.5, 37.5.
		{1, 5000, year, 0}, {3, 5000, year, 2}, {5, 5000, year, 2}, {7, 5000, year, 4}, {23, 5000, year, 12}, {25, 5000, year, 12}, {75, 5000, year, 38},
		{5000, 1, year, 0}, {15000, 1, year, 2}, {25000, 1, year, 2}, {35000, 1, year, 4}, {1000, 500, quarter, 12}, {3000, 500, quarter, 38}, {5000, 500, quarter, 62}, {7000, 500, quarter, 88},
		{1, 1, api.Ratio{N: 5000, D: 1}, 0}, {1, 1, api.Ratio{N: 15000, D: 1}, 2}, {1, 10000, api.Ratio{N: 1, D: 2}, 0}, {1, 10000, api.Ratio{N: 3, D: 2}, 2}, {1, 10000, api.Ratio{N: 5, D: 2}, 2},
		// A little more and less than these.
		{1, 4999, year, 0}, {1, 5001, year, 1}, {4999, 1, year, 0}, {5001, 1, year, 1}, {14999, 1, year, 1}, {15001, 1, year, 2}, {24999, 1, year, 2}, {25001, 1, year, 3}, {999, 500, quarter, 12}, {1001, 500, quarter, 13}, {2999, 500, quarter, 37}, {3001, 500, quarter, 38},
		{3, 4999, year, 1}, {3, 5001, year, 2}, {5, 4999, year, 2}, {5, 5001, year, 3}, {1, 1, api.Ratio{N: 14999, D: 1}, 1}, {1, 1, api.Ratio{N: 24999, D: 1}, 2}, {1, 1, api.Ratio{N: 25001, D: 1}, 3},
	} {
		answered(t, c.open, c.rate, c.part, c.want, api.OK)
		held(t, c.open, c.rate, c.part)
	}
}

// TestHalves is of P18.1: a half above each small number, and above great ones, goes to the even one; the least bit below it down, the least bit above it up.
func TestHalves(t *testing.T) {
	// The fractions beside a half that lie nearest to it, by the widest one.
	down, half, up := api.Ratio{N: widest / 2, D: widest}, api.Ratio{N: 1, D: 2}, api.Ratio{N: widest/2 + 1, D: widest}
	whole := func(w int) {
		t.Helper()
		even := w + w%2
		answered(t, 2*w+1, 10000, half, even, api.OK)
		answered(t, 2*w+1, 5000, api.Ratio{N: 1, D: 1}, even, api.OK)
		answered(t, 1, 10000, api.Ratio{N: 2*w + 1, D: 2}, even, api.OK)
		answered(t, 10000, 2*w+1, half, even, api.OK)
		answered(t, 2*w+1, 10000, down, w, api.OK)
		answered(t, 2*w+1, 10000, up, w+1, api.OK)
		answered(t, 10000, 2*w+1, down, w, api.OK)
		answered(t, 10000, 2*w+1, up, w+1, api.OK)
	}
	for w := range 3000 {
		whole(w)
	}
	for _, w := range []int{1<<31 - 1, 1 << 31, 999999999999, 1000000000000, 100000000000001, 400000000000000, 400000000000001} {
		whole(w)
	}
	r := rand.New(rand.NewSource(182))
	for range 3000 {
		whole(r.Intn(400000000000000))
	}
}

// TestLess is of P18.4: of more, at a higher rate, and for a greater part interest isn't less.
func TestLess(t *testing.T) {
	parts := rightParts()
	slices.SortFunc(parts, ratio.Cmp)
	// least is the interest ahead in a row in which it may not fall.
	row := func(many int, one func(i int) (int, api.Errno)) {
		t.Helper()
		least := 0
		for i := range many {
			got, e := one(i)
			if e == api.OK && got < least {
				t.Fatalf("%d, and then %d at %d", least, got, i)
			}
			if e == api.OK {
				least = got
			}
		}
	}
	for _, part := range parts {
		for _, rate := range rates() {
			row(len(amounts()), func(i int) (int, api.Errno) { return Of(amounts()[i], rate, part) })
		}
		for _, open := range amounts() {
			row(len(rates()), func(i int) (int, api.Errno) { return Of(open, rates()[i], part) })
		}
	}
	for _, open := range amounts() {
		for _, rate := range rates() {
			row(len(parts), func(i int) (int, api.Errno) { return Of(open, rate, parts[i]) })
		}
	}
	// One by one, where each step is less than a whole one.
	row(20000, func(i int) (int, api.Errno) { return Of(i, 500, api.Ratio{N: 1, D: 4}) })
	row(20000, func(i int) (int, api.Errno) { return Of(999, i, api.Ratio{N: 91, D: 360}) })
	row(4000, func(i int) (int, api.Errno) {
		part, _ := ratio.New(i, 365)
		return Of(1000, 777, part)
	})
	row(4000, func(i int) (int, api.Errno) { return Of(math.MaxInt-4000+i, 4999, api.Ratio{N: 1, D: 1}) })
}

// TestOff is of P18.4: interest is never further off than a half.
func TestOff(t *testing.T) {
	half := big.NewRat(1, 2)
	near := func(open, rate int, part api.Ratio) {
		t.Helper()
		got, e := Of(open, rate, part)
		if e != api.OK {
			return
		}
		off := new(big.Rat).SetFrac(times(open, rate, part.N), times(10000, part.D))
		off.Sub(off, big.NewRat(int64(got), 1))
		if off.Abs(off).Cmp(half) > 0 {
			t.Fatalf("Of(%d, %d, %v) = %d", open, rate, part, got)
		}
	}
	for _, open := range amounts() {
		for _, rate := range rates() {
			for _, part := range rightParts() {
				near(open, rate, part)
			}
		}
	}
	r := rand.New(rand.NewSource(183))
	for range 30000 {
		near(number(r), r.Intn(1000001), rightPart(r))
	}
}

// TestExamples are the chapter's.
func TestExamples(t *testing.T) {
	quarter := api.Ratio{N: 1, D: 4}
	answered(t, 100000, 500, quarter, 1250, api.OK)
	answered(t, 1000, 500, quarter, 12, api.OK)
	answered(t, 3000, 500, quarter, 38, api.OK)
}
