package ratio

import (
	"math"
	"math/big"
	"math/rand"
	"testing"

	"demurrage/api"
)

const most = api.MaxNum

// edges are numbers around the bounds, and some that share divisors, or are primes.
var edges = []int{0, 1, 2, 3, 4, 6, 7, 12, 360, 365, 366, 1<<31 - 1, 1 << 31, 1<<31 + 1, 3037000500,
	most/3 - 1, most / 3, most/2 - 1, most / 2, most/2 + 1, most - 57, most - 1, most}

// outside are numbers that no fraction has, at least not at both places.
var outside = []int{math.MinInt, math.MinInt + 1, -most, -2, -1, most + 1, most + 2, most / 2 * 3, math.MaxInt - 1, math.MaxInt}

// numbers are the edges and some others from 0 to MaxNum; always the same ones.
func numbers() []int {
	r := rand.New(rand.NewSource(1))
	out := append([]int{}, edges...)
	for range 10 {
		out = append(out, r.Intn(most)>>uint(r.Intn(62)), r.Intn(1000))
	}
	return out
}

// fractions are right ones: all that edges make, each once.
func fractions() []api.Ratio {
	seen := map[api.Ratio]bool{}
	var out []api.Ratio
	for _, n := range edges {
		for _, d := range edges {
			if d == 0 || seen[reduced(n, d)] {
				continue
			}
			seen[reduced(n, d)] = true
			out = append(out, reduced(n, d))
		}
	}
	return out
}

// pairs are all pairs of fractions, and others whose numbers are of all sizes and often share divisors; always the same ones.
func pairs() [][2]api.Ratio {
	var out [][2]api.Ratio
	for _, a := range fractions() {
		for _, b := range fractions() {
			out = append(out, [2]api.Ratio{a, b})
		}
	}
	r := rand.New(rand.NewSource(2))
	for range 20000 {
		bits := uint(r.Intn(60))
		number := func() int { return (1 + r.Intn(most)>>bits) / 12 * 12 }
		a, b := reduced(number(), 12+number()), reduced(number(), 12+number())
		out = append(out, [2]api.Ratio{a, b})
	}
	return out
}

// reduced is a fraction in lowest terms, worked out without the package.
func reduced(n, d int) api.Ratio {
	x := big.NewRat(int64(n), int64(d))
	return api.Ratio{N: int(x.Num().Int64()), D: int(x.Denom().Int64())}
}

func ratOf(r api.Ratio) *big.Rat { return big.NewRat(int64(r.N), int64(r.D)) }

// wanted is a fraction of any size as what the package should answer for it.
func wanted(x *big.Rat) (api.Ratio, api.Errno) {
	bound := big.NewInt(most)
	if x.Num().Cmp(bound) > 0 || x.Denom().Cmp(bound) > 0 {
		return api.Ratio{}, api.ErrOver
	}
	return api.Ratio{N: int(x.Num().Int64()), D: int(x.Denom().Int64())}, api.OK
}

// P2.1
func TestRight(t *testing.T) {
	for _, list := range [][]int{numbers(), outside} {
		for _, n := range list {
			for _, d := range append(numbers(), outside...) {
				inside := n >= 0 && n <= most && d >= 1 && d <= most
				want := inside && reduced(n, d) == api.Ratio{N: n, D: d}
				if got := Right(api.Ratio{N: n, D: d}); got != want {
					t.Errorf("Right of %d by %d: %v", n, d, got)
				}
			}
		}
	}
}

// P2.1: the fractions that the chapter's words set apart.
func TestRightAtEdges(t *testing.T) {
	for _, c := range []struct {
		r    api.Ratio
		want bool
	}{
		{api.Ratio{N: 0, D: 1}, true},
		{api.Ratio{N: 0, D: 2}, false},
		{api.Ratio{N: 0, D: most}, false},
		{api.Ratio{N: 0, D: 0}, false},
		{api.Ratio{N: 1, D: 0}, false},
		{api.Ratio{N: 1, D: -1}, false},
		{api.Ratio{N: -1, D: 1}, false},
		{api.Ratio{N: -1, D: -1}, false},
		{api.Ratio{N: 0, D: -1}, false},
		{api.Ratio{N: 1, D: 1}, true},
		{api.Ratio{N: 2, D: 2}, false},
		{api.Ratio{N: 3, D: 2}, true},
		{api.Ratio{N: 6, D: 4}, false},
		{api.Ratio{N: most, D: 1}, true},
		{api.Ratio{N: most + 1, D: 1}, false},
		{api.Ratio{N: 1, D: most}, true},
		{api.Ratio{N: 1, D: most + 1}, false},
		{api.Ratio{N: most, D: most - 1}, true},
		{api.Ratio{N: most - 1, D: most}, true},
		{api.Ratio{N: most, D: most}, false},
		{api.Ratio{N: math.MaxInt, D: 1}, false},
		{api.Ratio{N: math.MinInt, D: 1}, false},
		{api.Ratio{N: 1, D: math.MinInt}, false},
	} {
		if got := Right(c.r); got != c.want {
			t.Errorf("Right(%v) = %v", c.r, got)
		}
	}
}

// P2.1
func TestGcd(t *testing.T) {
	list := []uint64{1 << 63, 1<<63 + 1, 3 << 62, math.MaxUint64 - 1, math.MaxUint64, 12200160415121876738, 7540113804746346429}
	for _, n := range numbers() {
		list = append(list, uint64(n))
	}
	for _, a := range list {
		for _, b := range list {
			x, y := new(big.Int).SetUint64(a), new(big.Int).SetUint64(b)
			want := new(big.Int).GCD(nil, nil, x, y).Uint64()
			if got := Gcd(a, b); got != want {
				t.Errorf("Gcd(%d, %d) = %d, want %d", a, b, got, want)
			}
		}
	}
}

// P2.1: every small pair, by trying all that might divide both.
func TestGcdOfSmallOnes(t *testing.T) {
	for a := range uint64(60) {
		for b := range uint64(60) {
			want := uint64(0)
			for d := uint64(1); d <= max(a, b); d++ {
				if a%d == 0 && b%d == 0 {
					want = d
				}
			}
			if got := Gcd(a, b); got != want {
				t.Errorf("Gcd(%d, %d) = %d, want %d", a, b, got, want)
			}
		}
	}
}

// P2.2
func TestNew(t *testing.T) {
	list := append(numbers(), outside...)
	for _, n := range list {
		for _, d := range list {
			var want api.Ratio
			var code api.Errno
			switch {
			case n < 0 || d < 0:
				code = api.ErrArg
			case d == 0:
				code = api.ErrZero
			default:
				want, code = wanted(big.NewRat(int64(n), int64(d)))
			}
			if got, e := New(n, d); got != want || e != code {
				t.Errorf("New(%d, %d) = %v, %d, want %v, %d", n, d, got, e, want, code)
			}
		}
	}
}

// P2.2: each code just at its bound, and which one comes first.
func TestNewAtEdges(t *testing.T) {
	for _, c := range []struct {
		n, d int
		want api.Ratio
		code api.Errno
	}{
		{0, 1, api.Ratio{N: 0, D: 1}, api.OK},
		{0, 7, api.Ratio{N: 0, D: 1}, api.OK},
		{0, math.MaxInt, api.Ratio{N: 0, D: 1}, api.OK},
		{0, 0, api.Ratio{}, api.ErrZero},
		{1, 0, api.Ratio{}, api.ErrZero},
		{math.MaxInt, 0, api.Ratio{}, api.ErrZero},
		{-1, 0, api.Ratio{}, api.ErrArg},
		{math.MinInt, 0, api.Ratio{}, api.ErrArg},
		{-1, 1, api.Ratio{}, api.ErrArg},
		{0, -1, api.Ratio{}, api.ErrArg},
		{-4, -2, api.Ratio{}, api.ErrArg},
		{math.MaxInt, -1, api.Ratio{}, api.ErrArg},
		{-1, math.MaxInt, api.Ratio{}, api.ErrArg},
		{math.MinInt, math.MinInt, api.Ratio{}, api.ErrArg},
		{most, 1, api.Ratio{N: most, D: 1}, api.OK},
		{1, most, api.Ratio{N: 1, D: most}, api.OK},
		{most, most - 1, api.Ratio{N: most, D: most - 1}, api.OK},
		{most + 1, 1, api.Ratio{}, api.ErrOver},
		{1, most + 1, api.Ratio{}, api.ErrOver},
		{most + 1, most, api.Ratio{}, api.ErrOver},
		{most, most + 1, api.Ratio{}, api.ErrOver},
		{most + 2, 2, api.Ratio{N: most/2 + 1, D: 1}, api.OK},
		{2, most + 2, api.Ratio{N: 1, D: most/2 + 1}, api.OK},
		{math.MaxInt, 7, api.Ratio{N: math.MaxInt / 7, D: 1}, api.OK},
		{math.MaxInt, math.MaxInt, api.Ratio{N: 1, D: 1}, api.OK},
		{math.MaxInt, 1, api.Ratio{}, api.ErrOver},
		{math.MaxInt, math.MaxInt - 1, api.Ratio{}, api.ErrOver},
	} {
		if got, e := New(c.n, c.d); got != c.want || e != c.code {
			t.Errorf("New(%d, %d) = %v, %d, want %v, %d", c.n, c.d, got, e, c.want, c.code)
		}
	}
}

// ruled is a sum's or a product's answer held against the exact one: the same, right, and with nothing beside a code.
func ruled(t *testing.T, name string, a, b, got api.Ratio, e api.Errno, exact *big.Rat) {
	t.Helper()
	want, code := wanted(exact)
	if got != want || e != code {
		t.Errorf("%s(%v, %v) = %v, %d, want %v, %d", name, a, b, got, e, want, code)
	}
	if e == api.OK && !Right(got) {
		t.Errorf("%s(%v, %v) = %v is not right", name, a, b, got)
	}
}

// P2.3, P2.4
func TestAdd(t *testing.T) {
	for _, p := range pairs() {
		got, e := Add(p[0], p[1])
		ruled(t, "Add", p[0], p[1], got, e, new(big.Rat).Add(ratOf(p[0]), ratOf(p[1])))
	}
}

// P2.3, P2.4
func TestMul(t *testing.T) {
	for _, p := range pairs() {
		got, e := Mul(p[0], p[1])
		ruled(t, "Mul", p[0], p[1], got, e, new(big.Rat).Mul(ratOf(p[0]), ratOf(p[1])))
	}
}

// P2.3, P2.4
func TestCmp(t *testing.T) {
	for _, p := range pairs() {
		want := ratOf(p[0]).Cmp(ratOf(p[1]))
		if got := Cmp(p[0], p[1]); got != want {
			t.Errorf("Cmp(%v, %v) = %d, want %d", p[0], p[1], got, want)
		}
	}
}

// P2.3: sums whose parts share a divisor, and the last that fit, and the first ones that don't.
func TestAddAtEdges(t *testing.T) {
	for _, c := range []struct {
		a, b, want api.Ratio
		code       api.Errno
	}{
		{api.Ratio{N: 0, D: 1}, api.Ratio{N: 0, D: 1}, api.Ratio{N: 0, D: 1}, api.OK},
		{api.Ratio{N: 0, D: 1}, api.Ratio{N: most - 1, D: most}, api.Ratio{N: most - 1, D: most}, api.OK},
		{api.Ratio{N: 1, D: 10}, api.Ratio{N: 1, D: 15}, api.Ratio{N: 1, D: 6}, api.OK},
		{api.Ratio{N: 1, D: 12}, api.Ratio{N: 5, D: 12}, api.Ratio{N: 1, D: 2}, api.OK},
		{api.Ratio{N: 1, D: 3}, api.Ratio{N: 2, D: 3}, api.Ratio{N: 1, D: 1}, api.OK},
		{api.Ratio{N: 1, D: most}, api.Ratio{N: most - 1, D: most}, api.Ratio{N: 1, D: 1}, api.OK},
		{api.Ratio{N: 1, D: most}, api.Ratio{N: 1, D: most}, api.Ratio{N: 1, D: most / 2}, api.OK},
		{api.Ratio{N: 1, D: most}, api.Ratio{N: 1, D: most / 2}, api.Ratio{N: 3, D: most}, api.OK},
		{api.Ratio{N: most - 1, D: most}, api.Ratio{N: most - 1, D: most}, api.Ratio{N: most - 1, D: most / 2}, api.OK},
		{api.Ratio{N: most - 1, D: 1}, api.Ratio{N: 1, D: 1}, api.Ratio{N: most, D: 1}, api.OK},
		{api.Ratio{N: most, D: 1}, api.Ratio{N: 1, D: 1}, api.Ratio{}, api.ErrOver},
		{api.Ratio{N: most, D: 1}, api.Ratio{N: most, D: 1}, api.Ratio{}, api.ErrOver},
		{api.Ratio{N: most / 2, D: 1}, api.Ratio{N: 1, D: 2}, api.Ratio{}, api.ErrOver},
		{api.Ratio{N: 1, D: most}, api.Ratio{N: 1, D: 3}, api.Ratio{}, api.ErrOver},
		{api.Ratio{N: 1, D: most}, api.Ratio{N: 1, D: 1}, api.Ratio{}, api.ErrOver},
		{api.Ratio{N: most, D: most - 1}, api.Ratio{N: most - 1, D: most}, api.Ratio{}, api.ErrOver},
	} {
		for _, p := range [][2]api.Ratio{{c.a, c.b}, {c.b, c.a}} {
			if got, e := Add(p[0], p[1]); got != c.want || e != c.code {
				t.Errorf("Add(%v, %v) = %v, %d, want %v, %d", p[0], p[1], got, e, c.want, c.code)
			}
		}
	}
}

// P2.3: products whose parts share a divisor, and the last that fit, and the first ones that don't.
func TestMulAtEdges(t *testing.T) {
	for _, c := range []struct {
		a, b, want api.Ratio
		code       api.Errno
	}{
		{api.Ratio{N: 0, D: 1}, api.Ratio{N: 0, D: 1}, api.Ratio{N: 0, D: 1}, api.OK},
		{api.Ratio{N: 0, D: 1}, api.Ratio{N: most - 1, D: most}, api.Ratio{N: 0, D: 1}, api.OK},
		{api.Ratio{N: 1, D: 1}, api.Ratio{N: most, D: most - 1}, api.Ratio{N: most, D: most - 1}, api.OK},
		{api.Ratio{N: 4, D: 9}, api.Ratio{N: 15, D: 14}, api.Ratio{N: 10, D: 21}, api.OK},
		{api.Ratio{N: most, D: most - 1}, api.Ratio{N: most - 1, D: most}, api.Ratio{N: 1, D: 1}, api.OK},
		{api.Ratio{N: most, D: 3}, api.Ratio{N: 9, D: most}, api.Ratio{N: 3, D: 1}, api.OK},
		{api.Ratio{N: 1 << 31, D: 1}, api.Ratio{N: 1 << 31, D: 1}, api.Ratio{N: most, D: 1}, api.OK},
		{api.Ratio{N: 1, D: 1 << 31}, api.Ratio{N: 1, D: 1 << 31}, api.Ratio{N: 1, D: most}, api.OK},
		{api.Ratio{N: 1 << 31, D: 1}, api.Ratio{N: 1<<31 + 1, D: 1}, api.Ratio{}, api.ErrOver},
		{api.Ratio{N: 1, D: 1 << 31}, api.Ratio{N: 1, D: 1<<31 + 1}, api.Ratio{}, api.ErrOver},
		{api.Ratio{N: 1 << 32, D: 1}, api.Ratio{N: 1 << 32, D: 1}, api.Ratio{}, api.ErrOver},
		{api.Ratio{N: 1, D: 1 << 32}, api.Ratio{N: 1, D: 1 << 32}, api.Ratio{}, api.ErrOver},
		{api.Ratio{N: most, D: 1}, api.Ratio{N: most, D: 1}, api.Ratio{}, api.ErrOver},
		{api.Ratio{N: 1, D: most}, api.Ratio{N: 1, D: most}, api.Ratio{}, api.ErrOver},
	} {
		for _, p := range [][2]api.Ratio{{c.a, c.b}, {c.b, c.a}} {
			if got, e := Mul(p[0], p[1]); got != c.want || e != c.code {
				t.Errorf("Mul(%v, %v) = %v, %d, want %v, %d", p[0], p[1], got, e, c.want, c.code)
			}
		}
	}
}

// P2.3: two that lie so near each other that only exact numbers tell them apart.
func TestCmpAtEdges(t *testing.T) {
	for _, c := range []struct {
		a, b api.Ratio
		want int
	}{
		{api.Ratio{N: 0, D: 1}, api.Ratio{N: 0, D: 1}, 0},
		{api.Ratio{N: 0, D: 1}, api.Ratio{N: 1, D: most}, -1},
		{api.Ratio{N: 1, D: most}, api.Ratio{N: 1, D: most - 1}, -1},
		{api.Ratio{N: most - 2, D: most - 1}, api.Ratio{N: most - 1, D: most}, -1},
		{api.Ratio{N: most, D: most - 1}, api.Ratio{N: most - 1, D: most - 2}, -1},
		{api.Ratio{N: most - 1, D: most}, api.Ratio{N: 1, D: 1}, -1},
		{api.Ratio{N: 1, D: most}, api.Ratio{N: most, D: 1}, -1},
		{api.Ratio{N: most, D: 1}, api.Ratio{N: most, D: 1}, 0},
	} {
		if got := Cmp(c.a, c.b); got != c.want {
			t.Errorf("Cmp(%v, %v) = %d, want %d", c.a, c.b, got, c.want)
		}
		if got := Cmp(c.b, c.a); got != -c.want {
			t.Errorf("Cmp(%v, %v) = %d, want %d", c.b, c.a, got, -c.want)
		}
	}
}

// Fractions that are not right: no call panics, and none makes a fraction of them.
func TestWrongFractions(t *testing.T) {
	list := append([]int{0, 1, 2, 6}, outside...)
	one := api.Ratio{N: 1, D: 1}
	for _, n := range list {
		for _, d := range list {
			r := api.Ratio{N: n, D: d}
			if Right(r) {
				continue
			}
			for _, p := range [][2]api.Ratio{{r, one}, {one, r}, {r, r}} {
				Cmp(p[0], p[1])
				if got, e := Add(p[0], p[1]); got != (api.Ratio{}) || e != api.ErrArg {
					t.Errorf("Add(%v, %v) = %v, %d", p[0], p[1], got, e)
				}
				if got, e := Mul(p[0], p[1]); got != (api.Ratio{}) || e != api.ErrArg {
					t.Errorf("Mul(%v, %v) = %v, %d", p[0], p[1], got, e)
				}
			}
		}
	}
}

// The examples of the chapter.
func TestExamples(t *testing.T) {
	if r, e := New(6, 4); r != (api.Ratio{N: 3, D: 2}) || e != api.OK {
		t.Error("6 by 4:", r, e)
	}
	if r, e := Add(api.Ratio{N: 1, D: 6}, api.Ratio{N: 1, D: 3}); r != (api.Ratio{N: 1, D: 2}) || e != api.OK {
		t.Error("1 by 6 and 1 by 3:", r, e)
	}
	if r, e := Mul(api.Ratio{N: 2, D: 3}, api.Ratio{N: 3, D: 4}); r != (api.Ratio{N: 1, D: 2}) || e != api.OK {
		t.Error("2 by 3 times 3 by 4:", r, e)
	}
}
