package table

import (
	"math"
	"math/rand"
	"testing"

	"demurrage/api"
)

// refused holds Of of all three kinds against a code, with nothing beside it.
func (o order) refused(t *testing.T, code api.Errno) {
	t.Helper()
	for kind := range 3 {
		o.gets(t, kind, nil, code)
	}
}

// atPlace are so many ordinary parts, but for another one at a place.
func atPlace(n, place int, part api.Ratio) []api.Ratio {
	parts := alike(n, share(1, 4))
	parts[place] = part
	return parts
}

// TestHowManyParts is of P21.1: no parts, or more than 1200, ahead of whatever else is wrong.
func TestHowManyParts(t *testing.T) {
	for _, parts := range [][]api.Ratio{nil, {}, alike(1201, share(1, 4)), alike(1201, share(0, 0)), alike(5000, share(bound, 1))} {
		for _, money := range []int{1000, 0, -1, api.MaxMoney + 1, math.MinInt} {
			for _, rate := range []int{500, 0, -1, math.MaxInt} {
				order{money, rate, parts}.refused(t, api.ErrArg)
			}
		}
	}
}

// TestNoSuchMoney is of P21.1: money below 0 or above 10^15, ahead of the codes of its interest.
func TestNoSuchMoney(t *testing.T) {
	for _, money := range []int{-1, -2, -api.MaxMoney, math.MinInt, api.MaxMoney + 1, 2 * api.MaxMoney, bound, math.MaxInt} {
		for _, rate := range []int{500, 0, -1, math.MaxInt} {
			for _, part := range []api.Ratio{share(1, 4), share(2, 4), share(0, 0), share(bound, 1)} {
				order{money, rate, atPlace(3, 1, part)}.refused(t, api.ErrBound)
				order{money, rate, alike(1, part)}.refused(t, api.ErrBound)
			}
		}
	}
	for _, money := range []int{0, api.MaxMoney} {
		order{money, 500, alike(3, share(1, 4))}.followed(t)
	}
}

// TestNoSuchInterest is of P21.1: the codes of chapter 18, at each place, even of nothing where it asks for it.
func TestNoSuchInterest(t *testing.T) {
	for _, n := range []int{1, 2, 5, 1200} {
		for _, place := range []int{0, n / 2, n - 1} {
			for _, money := range []int{0, 1000, api.MaxMoney} {
				order{money, -1, atPlace(n, place, share(1, 4))}.refused(t, api.ErrArg)
				order{money, math.MinInt, atPlace(n, place, share(bound, 1))}.refused(t, api.ErrArg)
				for _, part := range []api.Ratio{share(0, 0), share(1, 0), share(2, 4), share(-1, 4), share(1, -4), share(0, 2), share(bound+1, 1)} {
					order{money, 500, atPlace(n, place, part)}.refused(t, api.ErrArg)
				}
				order{money, 500, atPlace(n, place, share(1, bound))}.refused(t, api.ErrOver)
			}
		}
		order{api.MaxMoney, 10000, atPlace(n, 0, share(4612, 1))}.refused(t, api.ErrOver)
		order{4, 10000, atPlace(n, 0, share(bound/4+1, 1))}.refused(t, api.ErrOver)
		order{1, math.MaxInt, atPlace(n, 0, share(bound, 1))}.refused(t, api.ErrOver)
	}
}

// TestWhatEachRefuses is of P21.1: what is too great is another thing by each kind, hanging on what is open where it is asked.
func TestWhatEachRefuses(t *testing.T) {
	const ok, over = api.OK, api.ErrOver
	// Of 4, at 10000, the first one is interest of just 2^62, the second one of 4 less, the third one of 4 more.
	whole, less, more := share(bound/4, 1), share(bound/4-1, 1), share(bound/4+1, 1)
	for i, c := range []struct {
		parts []api.Ratio
		codes [3]api.Errno
	}{
		{atPlace(1, 0, whole), [3]api.Errno{over, over, over}},
		{atPlace(1, 0, less), [3]api.Errno{ok, ok, ok}},
		{atPlace(4, 0, whole), [3]api.Errno{ok, ok, over}},
		{atPlace(4, 2, whole), [3]api.Errno{ok, ok, over}},
		{atPlace(4, 3, whole), [3]api.Errno{over, ok, over}},
		{atPlace(4, 3, less), [3]api.Errno{ok, ok, ok}},
		{atPlace(4, 1, more), [3]api.Errno{over, ok, over}},
		{atPlace(4, 3, more), [3]api.Errno{over, ok, over}},
		{atPlace(4, 0, more), [3]api.Errno{over, over, over}},
		{atPlace(4, 3, share(bound-1, 1)), [3]api.Errno{over, ok, over}},
		{atPlace(4, 3, share(bound, 1)), [3]api.Errno{over, over, over}},
	} {
		if codes := (order{4, 10000, c.parts}).followed(t); codes != c.codes {
			t.Error(i, codes, c.codes)
		}
	}
	order{4, 10000, atPlace(1, 0, less)}.gets(t, 0, lines(4, bound-4, 4, bound, 0), api.OK)
	order{4, 10000, []api.Ratio{whole, share(0, 1)}}.gets(t, 1, lines(4, bound, 2, bound+2, 2, 2, 0, 2, 2, 0), api.OK)
}

// TestNoSuchKind is of P21.1: a kind that isn't there tells nothing, whatever is beside it.
func TestNoSuchKind(t *testing.T) {
	orders := []order{
		{1000, 500, alike(4, share(1, 4))}, {0, 0, alike(1, share(0, 1))}, {api.MaxMoney, 500, alike(1200, share(1, 4))},
		{1000, 500, nil}, {1000, 500, alike(1201, share(1, 4))}, {-1, 500, alike(4, share(1, 4))}, {api.MaxMoney + 1, -1, alike(4, share(1, 4))},
		{1000, -1, alike(4, share(1, 4))}, {1000, 500, atPlace(4, 2, share(2, 4))}, {4, 10000, atPlace(4, 0, share(bound, 1))}, {4, 10000, atPlace(4, 3, share(bound/4, 1))},
	}
	for _, kind := range []int{3, 4, 5, 6, 7, 10, 255, 256, 257, 1 << 32, 1<<32 + 1, 1<<32 + 2, bound, math.MaxInt - 1, math.MaxInt, -1, -2, -3, -256, -1 << 32, -bound, math.MinInt, math.MinInt + 1, math.MinInt + 2} {
		for _, o := range orders {
			o.gets(t, kind, nil, api.ErrArg)
		}
	}
	r := rand.New(rand.NewSource(213))
	for range 5000 {
		if kind := int(r.Uint64() >> r.Intn(64)); kind < 0 || kind > 2 {
			orders[r.Intn(len(orders))].gets(t, kind, nil, api.ErrArg)
		}
	}
}
