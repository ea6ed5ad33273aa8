package wide

import (
	"math/big"
	"math/rand"
	"testing"

	"demurrage/api"
)

const most = 1<<64 - 1

// edges are numbers around the places where a half carries, or does not.
var edges = []uint64{0, 1, 2, 3, 10, 1<<32 - 1, 1 << 32, 1<<32 + 1, 1<<63 - 1, 1 << 63, 1<<63 + 1, most - 1, most}

// numbers are the edges and some others; always the same ones.
func numbers() []uint64 {
	r := rand.New(rand.NewSource(1))
	out := append([]uint64{}, edges...)
	for range 8 {
		out = append(out, r.Uint64(), r.Uint64()>>uint(r.Intn(64)))
	}
	return out
}

// wides are all pairs of edges, and some others.
func wides() []api.Wide {
	var out []api.Wide
	for _, hi := range edges {
		for _, lo := range edges {
			out = append(out, api.Wide{Hi: hi, Lo: lo})
		}
	}
	r := rand.New(rand.NewSource(2))
	for range 60 {
		out = append(out, api.Wide{Hi: r.Uint64() >> uint(r.Intn(64)), Lo: r.Uint64()})
	}
	return out
}

func bigOf(n uint64) *big.Int { return new(big.Int).SetUint64(n) }

func bigWide(x api.Wide) *big.Int {
	b := new(big.Int).Lsh(bigOf(x.Hi), 64)
	return b.Add(b, bigOf(x.Lo))
}

// wanted is a number of any size as what the package should answer for it.
func wanted(b *big.Int) (api.Wide, api.Errno) {
	if b.Sign() < 0 || b.BitLen() > 128 {
		return api.Wide{}, api.ErrOver
	}
	low := new(big.Int).And(b, bigOf(most))
	return api.Wide{Hi: new(big.Int).Rsh(b, 64).Uint64(), Lo: low.Uint64()}, api.OK
}

// P1.1
func TestOf(t *testing.T) {
	for _, n := range numbers() {
		if got := Of(n); got != (api.Wide{Hi: 0, Lo: n}) {
			t.Errorf("Of(%d) = %v", n, got)
		}
	}
}

// P1.1
func TestMul(t *testing.T) {
	for _, a := range numbers() {
		for _, b := range numbers() {
			want, _ := wanted(new(big.Int).Mul(bigOf(a), bigOf(b)))
			if got := Mul(a, b); got != want {
				t.Errorf("Mul(%d, %d) = %v, want %v", a, b, got, want)
			}
		}
	}
}

// P1.1
func TestCmp(t *testing.T) {
	for _, x := range wides() {
		for _, y := range wides() {
			want := bigWide(x).Cmp(bigWide(y))
			if got := Cmp(x, y); got != want {
				t.Errorf("Cmp(%v, %v) = %d, want %d", x, y, got, want)
			}
		}
	}
}

// P1.2
func TestTimes(t *testing.T) {
	for _, x := range wides() {
		for _, n := range numbers() {
			want, code := wanted(new(big.Int).Mul(bigWide(x), bigOf(n)))
			if got, e := Times(x, n); got != want || e != code {
				t.Errorf("Times(%v, %d) = %v, %d, want %v, %d", x, n, got, e, want, code)
			}
		}
	}
}

// P1.2
func TestAdd(t *testing.T) {
	for _, x := range wides() {
		for _, y := range wides() {
			want, code := wanted(new(big.Int).Add(bigWide(x), bigWide(y)))
			if got, e := Add(x, y); got != want || e != code {
				t.Errorf("Add(%v, %v) = %v, %d, want %v, %d", x, y, got, e, want, code)
			}
		}
	}
}

// P1.2
func TestSub(t *testing.T) {
	for _, x := range wides() {
		for _, y := range wides() {
			want, code := wanted(new(big.Int).Sub(bigWide(x), bigWide(y)))
			if got, e := Sub(x, y); got != want || e != code {
				t.Errorf("Sub(%v, %v) = %v, %d, want %v, %d", x, y, got, e, want, code)
			}
		}
	}
}

// P1.2: the last product, sum and difference that fit, and the first ones that don't.
func TestBounds(t *testing.T) {
	top := api.Wide{Hi: most, Lo: most}
	third := api.Wide{Hi: most / 3, Lo: most / 3}
	for _, c := range []struct {
		name string
		call func() (api.Wide, api.Errno)
		want api.Wide
		code api.Errno
	}{
		{"a third of 2^128 - 1, times 3", func() (api.Wide, api.Errno) { return Times(third, 3) }, top, api.OK},
		{"one above that third, times 3", func() (api.Wide, api.Errno) { return Times(api.Wide{Hi: third.Hi, Lo: third.Lo + 1}, 3) }, api.Wide{}, api.ErrOver},
		{"2^127 times 2", func() (api.Wide, api.Errno) { return Times(api.Wide{Hi: 1 << 63}, 2) }, api.Wide{}, api.ErrOver},
		{"2^128 - 1 and 0", func() (api.Wide, api.Errno) { return Add(top, Of(0)) }, top, api.OK},
		{"2^128 - 1 and 1", func() (api.Wide, api.Errno) { return Add(top, Of(1)) }, api.Wide{}, api.ErrOver},
		{"2^127 and 2^127", func() (api.Wide, api.Errno) { return Add(api.Wide{Hi: 1 << 63}, api.Wide{Hi: 1 << 63}) }, api.Wide{}, api.ErrOver},
		{"2^128 - 1 less itself", func() (api.Wide, api.Errno) { return Sub(top, top) }, api.Wide{}, api.OK},
		{"2^64 less 1", func() (api.Wide, api.Errno) { return Sub(api.Wide{Hi: 1}, Of(1)) }, api.Wide{Lo: most}, api.OK},
		{"0 less 1", func() (api.Wide, api.Errno) { return Sub(Of(0), Of(1)) }, api.Wide{}, api.ErrOver},
		{"2^64 less one more", func() (api.Wide, api.Errno) { return Sub(api.Wide{Hi: 1}, api.Wide{Hi: 1, Lo: 1}) }, api.Wide{}, api.ErrOver},
	} {
		if got, e := c.call(); got != c.want || e != c.code {
			t.Errorf("%s: %v, %d, want %v, %d", c.name, got, e, c.want, c.code)
		}
	}
}

// P1.3
func TestDiv(t *testing.T) {
	for _, x := range wides() {
		for _, d := range numbers() {
			if d == 0 {
				continue
			}
			q, r := new(big.Int).QuoRem(bigWide(x), bigOf(d), new(big.Int))
			want, _ := wanted(q)
			if got, left, e := Div(x, d); got != want || left != r.Uint64() || e != api.OK {
				t.Errorf("Div(%v, %d) = %v, %d, %d, want %v, %d", x, d, got, left, e, want, r)
			}
		}
	}
}

// P1.3
func TestDivByZero(t *testing.T) {
	for _, x := range wides() {
		if got, left, e := Div(x, 0); got != (api.Wide{}) || left != 0 || e != api.ErrZero {
			t.Errorf("Div(%v, 0) = %v, %d, %d", x, got, left, e)
		}
	}
}

// P1.4
func TestDivTurnedBack(t *testing.T) {
	for _, x := range wides() {
		for _, d := range numbers() {
			if d == 0 {
				continue
			}
			often, left, _ := Div(x, d)
			product, e := Times(often, d)
			sum, f := Add(product, Of(left))
			if sum != x || e != api.OK || f != api.OK || left >= d {
				t.Errorf("%v by %d: %v times %d and %d is %v (%d, %d)", x, d, often, d, left, sum, e, f)
			}
		}
	}
}

// The examples of the chapter.
func TestExamples(t *testing.T) {
	product := Mul(1<<63, 6)
	if product != (api.Wide{Hi: 3, Lo: 0}) {
		t.Error("2^63 times 6:", product)
	}
	if often, left, e := Div(product, 4); often != (api.Wide{Hi: 0, Lo: 3 << 62}) || left != 0 || e != api.OK {
		t.Error("that by 4:", often, left, e)
	}
}
