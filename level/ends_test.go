package level

import (
	"math"
	"math/rand"
	"slices"
	"testing"

	"demurrage/accrue"
	"demurrage/api"
)

// each holds Ends at each payment from 0 on, past the greatest that may be needed, and Least against the first one with which it ends.
func (l lent) each(t *testing.T) {
	t.Helper()
	all, e := accrue.All(l.money, l.rate, l.parts)
	if e != api.OK {
		t.Fatal(e)
	}
	first := -1
	for pay := range l.money + slices.Max(all) + 3 {
		ends := l.endsWith(t, pay)
		l.asked(t, pay, ends, api.OK)
		if ends && first < 0 {
			first = pay
		}
		if !ends && first >= 0 {
			t.Fatalf("%+v ends with %d, and not with %d", l.few(), first, pay)
		}
	}
	if first < 0 || first > l.money+slices.Max(all) {
		t.Fatalf("%+v: %d", l.few(), first)
	}
	l.told(t, first, l.with(t, first), api.OK)
}

// TestEachPayment is of P20.1 and P20.3: small amounts, payment by payment.
func TestEachPayment(t *testing.T) {
	parts := []api.Ratio{{N: 0, D: 1}, {N: 1, D: 4}, {N: 1, D: 1}, {N: 3, D: 2}, {N: 5, D: 1}}
	for money := range 10 {
		for _, rate := range []int{0, 1, 999, 5000, 5001, 10000, 12345} {
			for _, a := range parts {
				at(money, rate, a).each(t)
				for _, b := range parts {
					at(money, rate, a, b).each(t)
					for _, c := range parts {
						at(money, rate, a, b, c).each(t)
					}
				}
			}
		}
	}
	for money := range 130 {
		for _, n := range []int{1, 2, 3, 7, 11} {
			quarterly(money, 725, n).each(t)
			yearly(money, 725, n).each(t)
			lent{money, 725, usual()[:n]}.each(t)
		}
	}
}

// TestEachByChance is of P20.1 and P20.3: any small amounts, payment by payment.
func TestEachByChance(t *testing.T) {
	r := rand.New(rand.NewSource(202))
	for range 1500 {
		lent{r.Intn(100), r.Intn(10000), someParts(r, 1+r.Intn(16))}.each(t)
	}
}

// TestEnds is of P20.1: payments reckoned by hand.
func TestEnds(t *testing.T) {
	l := quarterly(1000, 500, 4)
	for _, pay := range []int{0, 1, 11, 12, 13, 250, 256, 257} {
		l.asked(t, pay, false, api.OK)
	}
	for _, pay := range []int{258, 259, 1000, 1011, 1012, 1013, most - 1, most, most + 1, math.MaxInt} {
		l.asked(t, pay, true, api.OK)
	}
	// Where nothing is lent, a payment of nothing is enough.
	yearly(0, 500, 3).asked(t, 0, true, api.OK)
	yearly(0, 500, 3).asked(t, math.MaxInt, true, api.OK)
	yearly(1, 0, 3).asked(t, 0, false, api.OK)
	yearly(1, 0, 3).asked(t, 1, true, api.OK)
	// The last row's interest counts: of 100, and 10 of it.
	yearly(100, 1000, 1).asked(t, 100, false, api.OK)
	yearly(100, 1000, 1).asked(t, 109, false, api.OK)
	yearly(100, 1000, 1).asked(t, 110, true, api.OK)
	// A row's interest above the payment adds nothing to what is open: 300 is left, and not more.
	long := at(300, 1000, api.Ratio{N: 10, D: 1}, api.Ratio{N: 0, D: 1})
	for _, pay := range []int{0, 100, 299} {
		long.asked(t, pay, false, api.OK)
	}
	for _, pay := range []int{300, 301, 599, 600, 601} {
		long.asked(t, pay, true, api.OK)
	}
	// The last payment's bound is the payment itself, and not 2^62.
	at(1, 10000, api.Ratio{N: most - 1, D: 1}).asked(t, most-1, false, api.OK)
	at(1, 10000, api.Ratio{N: most - 1, D: 1}).asked(t, most, true, api.OK)
}

// TestEndsByChance is of P20.1 and P20.3: any payments, and greater ones.
func TestEndsByChance(t *testing.T) {
	r := rand.New(rand.NewSource(203))
	for range 3000 {
		l := lent{r.Intn(greatest + 1), r.Intn(20000), someParts(r, 1+r.Intn(30))}
		least, e := Least(l.money, l.rate, l.parts)
		if e != api.OK {
			t.Fatal(l, e)
		}
		for range 10 {
			pay := r.Intn(2*least + 2)
			ends := l.endsWith(t, pay)
			l.asked(t, pay, ends, api.OK)
			if ends != (pay >= least) {
				t.Fatalf("%+v: %d of %d", l.few(), pay, least)
			}
		}
	}
}
