package round

import (
	"math"
	"math/big"
	"math/rand"
	"testing"

	"demurrage/api"
)

const (
	most = api.MaxNum
	top  = math.MaxUint64
)

// divisors are numbers around the places where twice a number, or a product, goes round; 0 is not among them.
var divisors = []uint64{1, 2, 3, 4, 5, 7, 10, 360, 10000, 1<<32 - 1, 1 << 32, 1<<32 + 1, most - 1, most, most + 1,
	1<<63 - 1, 1 << 63, 1<<63 + 1, top / 3, top - 1, top}

// wholes are quotients, small ones and ones around MaxNum.
var wholes = []uint64{0, 1, 2, 3, 4, 5, 10, 11, 1<<32 - 1, 1 << 32, most/2 - 1, most / 2, most/2 + 1,
	most - 2, most - 1, most, most + 1, most + 2, 1<<63 - 1, 1 << 63, top - 1, top}

// amounts are numbers that a product is made of.
var amounts = []int{0, 1, 2, 3, 5, 7, 500, 1000, 100000, 1<<31 - 1, 1 << 31, 1<<32 + 1, api.MaxMoney, most/3 + 1,
	most - 1, most, most + 1, math.MaxInt - 1, math.MaxInt}

// fractions are right ones.
var fractions = []api.Ratio{{N: 0, D: 1}, {N: 1, D: 1}, {N: 1, D: 2}, {N: 1, D: 4}, {N: 2, D: 3}, {N: 3, D: 2}, {N: 31, D: 360},
	{N: 731, D: 133590}, {N: 16, D: 1}, {N: 1, D: 1 << 31}, {N: 1 << 31, D: 3}, {N: 1, D: most}, {N: 3, D: most}, {N: most, D: 1},
	{N: most, D: most - 1}, {N: most - 1, D: most}}

func bigOf(n uint64) *big.Int { return new(big.Int).SetUint64(n) }

func bigWide(x api.Wide) *big.Int {
	b := new(big.Int).Lsh(bigOf(x.Hi), 64)
	return b.Add(b, bigOf(x.Lo))
}

func wideOf(b *big.Int) api.Wide {
	low := new(big.Int).And(b, bigOf(top))
	return api.Wide{Hi: new(big.Int).Rsh(b, 64).Uint64(), Lo: low.Uint64()}
}

// told is a whole number of any size as the package should answer it.
func told(b *big.Int) (int, api.Errno) {
	if b.Cmp(big.NewInt(most)) > 0 {
		return 0, api.ErrOver
	}
	return int(b.Int64()), api.OK
}

// nearest is the next whole number to x by d, by how far off its two neighbours are.
func nearest(x, d *big.Int) *big.Int {
	low := new(big.Int).Quo(x, d)
	high := new(big.Int).Add(low, big.NewInt(1))
	down := new(big.Int).Sub(x, new(big.Int).Mul(low, d))
	up := new(big.Int).Sub(new(big.Int).Mul(high, d), x)
	if c := down.Cmp(up); c < 0 || c == 0 && low.Bit(0) == 0 {
		return low
	}
	return high
}

// quotient is a number of 128 bits, and what it is divided by.
type quotient struct {
	x api.Wide
	d uint64
}

// quotients lie at, just below and just above each whole number and each half of it, by each divisor; and others, always the same ones.
func quotients() []quotient {
	var out []quotient
	for _, d := range divisors {
		for _, whole := range wholes {
			base := new(big.Int).Mul(bigOf(whole), bigOf(d))
			for _, left := range []uint64{0, 1, d/2 - 1, d / 2, d/2 + 1, d - 1} {
				if x := new(big.Int).Add(base, bigOf(left)); left < d && x.BitLen() <= 128 {
					out = append(out, quotient{wideOf(x), d})
				}
			}
		}
		out = append(out, quotient{api.Wide{Hi: top, Lo: top}, d})
	}
	r := rand.New(rand.NewSource(1))
	for range 20000 {
		x := api.Wide{Hi: r.Uint64() >> uint(r.Intn(65)), Lo: r.Uint64() >> uint(r.Intn(65))}
		out = append(out, quotient{x, 1 + r.Uint64()>>uint(1+r.Intn(63))})
	}
	return out
}

// P3.1
func TestDown(t *testing.T) {
	for _, q := range quotients() {
		want, code := told(new(big.Int).Quo(bigWide(q.x), bigOf(q.d)))
		if got, e := Down(q.x, q.d); got != want || e != code {
			t.Errorf("Down(%v, %d) = %d, %d, want %d, %d", q.x, q.d, got, e, want, code)
		}
	}
}

// P3.1
func TestEven(t *testing.T) {
	for _, q := range quotients() {
		want, code := told(nearest(bigWide(q.x), bigOf(q.d)))
		if got, e := Even(q.x, q.d); got != want || e != code {
			t.Errorf("Even(%v, %d) = %d, %d, want %d, %d", q.x, q.d, got, e, want, code)
		}
	}
}

// P3.1: no number goes into anything 0 times, not even into what would be too great.
func TestByZero(t *testing.T) {
	for _, x := range []api.Wide{{}, {Lo: 1}, {Lo: most}, {Lo: most + 1}, {Lo: top}, {Hi: 1}, {Hi: top, Lo: top}} {
		if got, e := Down(x, 0); got != 0 || e != api.ErrZero {
			t.Errorf("Down(%v, 0) = %d, %d", x, got, e)
		}
		if got, e := Even(x, 0); got != 0 || e != api.ErrZero {
			t.Errorf("Even(%v, 0) = %d, %d", x, got, e)
		}
	}
}

// P3.1: halves and their neighbours, written out, and all that lies around MaxNum.
func TestQuotientsAtEdges(t *testing.T) {
	// 2^62 times 4, and twice that: what MaxNum is a quarter, and an eighth, of.
	four, eight := api.Wide{Hi: 1}, api.Wide{Hi: 2}
	for _, c := range []struct {
		x          api.Wide
		d          uint64
		down, even int
		e, f       api.Errno
	}{
		{api.Wide{}, 1, 0, 0, api.OK, api.OK},
		{api.Wide{}, top, 0, 0, api.OK, api.OK},
		{api.Wide{Lo: 1}, 2, 0, 0, api.OK, api.OK},
		{api.Wide{Lo: 3}, 2, 1, 2, api.OK, api.OK},
		{api.Wide{Lo: 5}, 2, 2, 2, api.OK, api.OK},
		{api.Wide{Lo: 7}, 2, 3, 4, api.OK, api.OK},
		{api.Wide{Lo: 9}, 10, 0, 1, api.OK, api.OK},
		{api.Wide{Lo: 14}, 10, 1, 1, api.OK, api.OK},
		{api.Wide{Lo: 15}, 10, 1, 2, api.OK, api.OK},
		{api.Wide{Lo: 16}, 10, 1, 2, api.OK, api.OK},
		{api.Wide{Lo: 24}, 10, 2, 2, api.OK, api.OK},
		{api.Wide{Lo: 25}, 10, 2, 2, api.OK, api.OK},
		{api.Wide{Lo: 26}, 10, 2, 3, api.OK, api.OK},
		{api.Wide{Lo: 1}, 3, 0, 0, api.OK, api.OK},
		{api.Wide{Lo: 2}, 3, 0, 1, api.OK, api.OK},
		{api.Wide{Lo: 1 << 62}, 1 << 63, 0, 0, api.OK, api.OK},
		{api.Wide{Lo: 1<<62 + 1}, 1 << 63, 0, 1, api.OK, api.OK},
		{api.Wide{Lo: 1<<63 - 1}, top, 0, 0, api.OK, api.OK},
		{api.Wide{Lo: 1 << 63}, top, 0, 1, api.OK, api.OK},
		{api.Wide{Lo: top - 1}, top, 0, 1, api.OK, api.OK},
		{api.Wide{Lo: most - 1}, 1, most - 1, most - 1, api.OK, api.OK},
		{api.Wide{Lo: most}, 1, most, most, api.OK, api.OK},
		{api.Wide{Lo: most + 1}, 1, 0, 0, api.ErrOver, api.ErrOver},
		{api.Wide{Lo: 2*most - 3}, 2, most - 2, most - 2, api.OK, api.OK},
		{api.Wide{Lo: 2*most - 1}, 2, most - 1, most, api.OK, api.OK},
		{api.Wide{Lo: 2*most + 1}, 2, most, most, api.OK, api.OK},
		{api.Wide{Lo: 2*most + 2}, 2, 0, 0, api.ErrOver, api.ErrOver},
		{four, 4, most, most, api.OK, api.OK},
		{api.Wide{Lo: top}, 4, most - 1, most, api.OK, api.OK},
		{api.Wide{Hi: 1, Lo: 2}, 4, most, most, api.OK, api.OK},
		{api.Wide{Hi: 1, Lo: 3}, 4, most, 0, api.OK, api.ErrOver},
		{api.Wide{Hi: 1, Lo: 4}, 4, 0, 0, api.ErrOver, api.ErrOver},
		{eight, 8, most, most, api.OK, api.OK},
		{api.Wide{Hi: 2, Lo: 4}, 8, most, most, api.OK, api.OK},
		{api.Wide{Hi: 2, Lo: 5}, 8, most, 0, api.OK, api.ErrOver},
		{api.Wide{Lo: top}, 1, 0, 0, api.ErrOver, api.ErrOver},
		{api.Wide{Hi: 1}, 1, 0, 0, api.ErrOver, api.ErrOver},
		{api.Wide{Hi: 1, Lo: 5}, 1, 0, 0, api.ErrOver, api.ErrOver},
		{api.Wide{Hi: top, Lo: top}, 1, 0, 0, api.ErrOver, api.ErrOver},
		{api.Wide{Hi: top, Lo: top}, 2, 0, 0, api.ErrOver, api.ErrOver},
		{api.Wide{Hi: top, Lo: top}, top, 0, 0, api.ErrOver, api.ErrOver},
	} {
		if got, e := Down(c.x, c.d); got != c.down || e != c.e {
			t.Errorf("Down(%v, %d) = %d, %d, want %d, %d", c.x, c.d, got, e, c.down, c.e)
		}
		if got, e := Even(c.x, c.d); got != c.even || e != c.f {
			t.Errorf("Even(%v, %d) = %d, %d, want %d, %d", c.x, c.d, got, e, c.even, c.f)
		}
	}
}

// wantedPart is what Part should answer, by numbers of any size.
func wantedPart(a, b int, r api.Ratio, per int) (int, api.Errno) {
	if a < 0 || b < 0 || per < 1 {
		return 0, api.ErrArg
	}
	x := new(big.Int).Mul(big.NewInt(int64(a)), big.NewInt(int64(b)))
	x.Mul(x, big.NewInt(int64(r.N)))
	d := new(big.Int).Mul(big.NewInt(int64(per)), big.NewInt(int64(r.D)))
	if x.BitLen() > 128 || d.BitLen() > 64 {
		return 0, api.ErrOver
	}
	return told(nearest(x, d))
}

// P3.2
func TestPart(t *testing.T) {
	numbers := append([]int{-1, -2, math.MinInt, math.MinInt + 1}, amounts...)
	for _, r := range fractions {
		for _, per := range append([]int{4, 5, 10000}, numbers...) {
			for _, a := range numbers {
				for _, b := range numbers {
					want, code := wantedPart(a, b, r, per)
					if got, e := Part(a, b, r, per); got != want || e != code {
						t.Errorf("Part(%d, %d, %v, %d) = %d, %d, want %d, %d", a, b, r, per, got, e, want, code)
					}
				}
			}
		}
	}
}

// P3.2: numbers of all sizes, always the same ones.
func TestPartOfMany(t *testing.T) {
	r := rand.New(rand.NewSource(2))
	number := func() int { return int(r.Uint64()>>1) >> uint(r.Intn(63)) }
	for range 50000 {
		part := big.NewRat(int64(number()), 1+int64(number()/4))
		n, d := part.Num().Int64(), part.Denom().Int64()
		if n > most || d > most {
			continue
		}
		a, b, f, per := number(), number(), api.Ratio{N: int(n), D: int(d)}, number()
		want, code := wantedPart(a, b, f, per)
		if got, e := Part(a, b, f, per); got != want || e != code {
			t.Errorf("Part(%d, %d, %v, %d) = %d, %d, want %d, %d", a, b, f, per, got, e, want, code)
		}
	}
}

// P3.2: each code just at its bound, and which one comes first.
func TestPartAtEdges(t *testing.T) {
	quarter := api.Ratio{N: 1, D: 4}
	for _, c := range []struct {
		name string
		a, b int
		r    api.Ratio
		per  int
		want int
		code api.Errno
	}{
		{"a is 0", 0, 500, quarter, 10000, 0, api.OK},
		{"b is 0", 1000, 0, quarter, 10000, 0, api.OK},
		{"N is 0", 1000, 500, api.Ratio{N: 0, D: 1}, 10000, 0, api.OK},
		{"all are 0, per is 1", 0, 0, api.Ratio{N: 0, D: 1}, 1, 0, api.OK},
		{"a is 0, the others great", 0, math.MaxInt, api.Ratio{N: most, D: 1}, 1, 0, api.OK},
		{"N is 0, the others great", math.MaxInt, math.MaxInt, api.Ratio{N: 0, D: 1}, math.MaxInt, 0, api.OK},
		{"a is -1", -1, 500, quarter, 10000, 0, api.ErrArg},
		{"b is -1", 1000, -1, quarter, 10000, 0, api.ErrArg},
		{"a and b are -1", -1, -1, quarter, 10000, 0, api.ErrArg},
		{"a is the least int", math.MinInt, 0, quarter, 10000, 0, api.ErrArg},
		{"b is the least int", 0, math.MinInt, quarter, 10000, 0, api.ErrArg},
		{"per is 0", 1000, 500, quarter, 0, 0, api.ErrArg},
		{"per is -1", 1000, 500, quarter, -1, 0, api.ErrArg},
		{"per is the least int", 1000, 500, quarter, math.MinInt, 0, api.ErrArg},
		{"a and per are below, too great besides", -1, most, api.Ratio{N: most, D: 1}, 0, 0, api.ErrArg},
		{"per is 0, too great besides", most, most, api.Ratio{N: most, D: 1}, 0, 0, api.ErrArg},
		{"2^128 by the greatest", most, most, api.Ratio{N: 16, D: 1}, math.MaxInt, 0, api.ErrOver},
		{"2^128 by 2^64 - 4", most, most, api.Ratio{N: 16, D: most - 1}, 4, 0, api.ErrOver},
		{"15 times 2^124", most, most, api.Ratio{N: 15, D: most}, 3, 0, api.ErrOver},
		{"2^128 - 1, by 3 times 2^62", 67280421310721 * 65537, 6700417 * 274177 * 641, api.Ratio{N: 3 * 5 * 17 * 257, D: most}, 3, 0, api.ErrOver},
		{"2^186, goes round to 0", most, most, api.Ratio{N: most, D: 1}, 1, 0, api.ErrOver},
		{"2^128 and 2^66, goes round to 2^66", most, most + 1, api.Ratio{N: 16, D: 1}, 1 << 20, 0, api.ErrOver},
		{"per times D is 3 times 2^62", 1 << 40, 3 << 40, api.Ratio{N: 1, D: most}, 3, 1 << 18, api.OK},
		{"per times D is 2^64", 1 << 40, 3 << 40, api.Ratio{N: 1, D: most}, 4, 0, api.ErrOver},
		{"per times D is 2^64, a is 0", 0, 1, api.Ratio{N: 1, D: most}, 4, 0, api.ErrOver},
		{"per times D is 2^64 - 1", 3 << 31, 5 << 31, api.Ratio{N: 1, D: top / 5}, 5, 4, api.OK},
		{"per times D is 2^64 - 1, a little more than a half", 1 << 32, 1 << 31, api.Ratio{N: 1, D: top / 5}, 5, 1, api.OK},
		{"per times D is 2^64 - 1, a is 0", 0, 1, api.Ratio{N: 1, D: top / 5}, 5, 0, api.OK},
		{"per times D goes round to 0", 1, 1, api.Ratio{N: 1, D: most}, 1 << 61, 0, api.ErrOver},
		{"per times D goes round to 2^62", 1, 1, api.Ratio{N: 1, D: most}, 5, 0, api.ErrOver},
		{"per times D is 2^63, a half", 1 << 62, 1, api.Ratio{N: 1, D: most}, 2, 0, api.OK},
		{"MaxNum", most, 1, api.Ratio{N: 1, D: 1}, 1, most, api.OK},
		{"MaxNum of more", math.MaxInt, most, api.Ratio{N: 1, D: 1}, math.MaxInt, most, api.OK},
		{"one above MaxNum", most + 1, 1, api.Ratio{N: 1, D: 1}, 1, 0, api.ErrOver},
		{"a half below MaxNum", 2*most - 1, 1, api.Ratio{N: 1, D: 1}, 2, most, api.OK},
		{"a half below the even one ahead of MaxNum", 2*most - 5, 1, api.Ratio{N: 1, D: 1}, 2, most - 2, api.OK},
		{"a half above MaxNum", 77158673929, (2*most + 1) / 77158673929, api.Ratio{N: 1, D: 2}, 1, most, api.OK},
		{"a third above MaxNum", 952469857, (3*most + 1) / 952469857, api.Ratio{N: 1, D: 1}, 3, most, api.OK},
		{"two thirds above MaxNum", 5135573, (3*most + 2) / 5135573, api.Ratio{N: 1, D: 3}, 1, 0, api.ErrOver},
	} {
		if got, e := Part(c.a, c.b, c.r, c.per); got != c.want || e != c.code {
			t.Errorf("%s: Part(%d, %d, %v, %d) = %d, %d, want %d, %d", c.name, c.a, c.b, c.r, c.per, got, e, c.want, c.code)
		}
	}
}

// P3.3
func TestEvenBesideDown(t *testing.T) {
	for _, q := range quotients() {
		down, e := Down(q.x, q.d)
		even, f := Even(q.x, q.d)
		if e != api.OK {
			if f != e {
				t.Errorf("%v by %d: Down %d, Even %d", q.x, q.d, e, f)
			}
			continue
		}
		if f == api.ErrOver && down == most {
			continue
		}
		if f != api.OK || even < down || even > down+1 {
			t.Errorf("%v by %d: Down %d, Even %d, %d", q.x, q.d, down, even, f)
		}
	}
}

// P3.3: what is a whole number isn't turned.
func TestWholeNumbers(t *testing.T) {
	for _, whole := range wholes {
		for _, d := range divisors {
			x := wideOf(new(big.Int).Mul(bigOf(whole), bigOf(d)))
			want, code := told(bigOf(whole))
			if got, e := Down(x, d); got != want || e != code {
				t.Errorf("Down(%v, %d) = %d, %d, want %d, %d", x, d, got, e, want, code)
			}
			if got, e := Even(x, d); got != want || e != code {
				t.Errorf("Even(%v, %d) = %d, %d, want %d, %d", x, d, got, e, want, code)
			}
		}
	}
}

// Fractions that are not right: Part doesn't panic, and makes no number of one below 0, or by 0.
func TestWrongFractions(t *testing.T) {
	for _, r := range []api.Ratio{{}, {N: -1, D: 1}, {N: 1, D: -1}, {N: 1, D: 0}, {N: -1, D: -1}, {N: math.MinInt, D: math.MinInt}} {
		if got, e := Part(1000, 500, r, 10000); got != 0 || e != api.ErrArg {
			t.Errorf("Part of %v: %d, %d", r, got, e)
		}
	}
}

// The examples of the chapter, and those of the whole that speak of it.
func TestExamples(t *testing.T) {
	if n, e := Down(api.Wide{Lo: 7}, 2); n != 3 || e != api.OK {
		t.Error("7 by 2, down:", n, e)
	}
	if n, e := Even(api.Wide{Lo: 7}, 2); n != 4 || e != api.OK {
		t.Error("7 by 2:", n, e)
	}
	if n, e := Even(api.Wide{Lo: 5}, 2); n != 2 || e != api.OK {
		t.Error("5 by 2:", n, e)
	}
	if n, e := Part(1000, 500, api.Ratio{N: 1, D: 4}, 10000); n != 12 || e != api.OK {
		t.Error("1000 times 500 times 1 by 4, by 10000:", n, e)
	}
}
