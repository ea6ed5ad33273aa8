package level

import (
	"math"
	"math/rand"
	"slices"
	"sync"
	"testing"

	"demurrage/api"
)

// answers are what all three calls tell.
type answers struct {
	ends  bool
	least int
	rows  []api.Row
	codes [3]api.Errno
}

// ask asks all three calls, in an order.
func (l lent) ask(pay int, order []int) answers {
	var a answers
	for _, i := range order {
		switch i {
		case 0:
			a.ends, a.codes[0] = Ends(l.money, l.rate, l.parts, pay)
		case 1:
			a.least, a.codes[1] = Least(l.money, l.rate, l.parts)
		case 2:
			a.rows, a.codes[2] = Table(l.money, l.rate, l.parts)
		}
	}
	return a
}

// same: are two answers the same?
func (a answers) same(b answers) bool {
	return a.ends == b.ends && a.least == b.least && slices.Equal(a.rows, b.rows) && a.codes == b.codes
}

// someLent is one by chance, often one that has a table.
func someLent(r *rand.Rand) lent {
	l := lent{r.Intn(1000000000), r.Intn(20000), someParts(r, 1+r.Intn(20))}
	switch r.Intn(20) {
	case 0:
		l.money = noMoney()[r.Intn(len(noMoney()))]
	case 1:
		l.rate = belowNothing()[r.Intn(len(belowNothing()))]
	case 2:
		l.parts[r.Intn(len(l.parts))] = wrongParts()[r.Intn(len(wrongParts()))]
	case 3:
		l.parts[r.Intn(len(l.parts))] = api.Ratio{N: most, D: 1}
	case 4:
		l.parts = nil
	}
	return l
}

// TestNothingKept is of R4: calls answer alike in any order, one behind the other and beside each other.
func TestNothingKept(t *testing.T) {
	r := rand.New(rand.NewSource(205))
	all, pays, first := make([]lent, 1000), make([]int, 1000), make([]answers, 1000)
	for i := range all {
		all[i], pays[i] = someLent(r), r.Intn(100000000)-10000000
		first[i] = all[i].ask(pays[i], []int{0, 1, 2})
	}
	again := func(seed int64) {
		r := rand.New(rand.NewSource(seed))
		for _, i := range r.Perm(len(all)) {
			if got := all[i].ask(pays[i], r.Perm(3)); !got.same(first[i]) {
				t.Errorf("%+v, %d: %+v, then %+v", all[i], pays[i], first[i], got)
				return
			}
		}
	}
	again(206)
	again(207)
	var wait sync.WaitGroup
	for w := range int64(6) {
		wait.Go(func() { again(w) })
	}
	wait.Wait()
}

// TestHandedIn is of R3: the parts are not written into, nor what lies ahead of them and behind their end in the same memory.
func TestHandedIn(t *testing.T) {
	parts := slices.Concat(usual(), wrongParts(), repeated(api.Ratio{N: most, D: 1}, 2), usual())
	before := slices.Clone(parts)
	for from := range parts {
		for to := from; to <= len(parts); to++ {
			for _, rate := range []int{500, -1} {
				lent{100000, rate, parts[from:to]}.ask(30000, []int{0, 1, 2})
			}
		}
	}
	if !slices.Equal(parts, before) {
		t.Error(parts)
	}
}

// TestNotKept is of R3: what is written later into the parts that were handed in turns nothing that was told, and nothing of what is told anew.
func TestNotKept(t *testing.T) {
	l := quarterly(1000, 500, 4)
	want := laid([5]int{1000, 12, 246, 258, 754}, [5]int{754, 9, 249, 258, 505}, [5]int{505, 6, 252, 258, 253}, [5]int{253, 3, 253, 256, 0})
	rows, e := Table(l.money, l.rate, l.parts)
	clear(l.parts)
	if e != api.OK || !slices.Equal(rows, want) {
		t.Error(rows, e)
	}
	l.refused(t, api.ErrArg)
	quarterly(1000, 500, 4).told(t, 258, want, api.OK)
}

// TestOwnMemory is of R3: what was answered isn't turned by a later call, and no later call by what is done to it.
func TestOwnMemory(t *testing.T) {
	l := quarterly(1000, 500, 4)
	first, _ := Table(l.money, l.rate, l.parts)
	kept := slices.Clone(first)
	r := rand.New(rand.NewSource(208))
	for range 300 {
		someLent(r).ask(500, r.Perm(3))
	}
	second, _ := Table(l.money, l.rate, l.parts)
	if !slices.Equal(first, kept) || !slices.Equal(second, kept) {
		t.Error(first, second, kept)
	}
	all := first[:cap(first)]
	for i := range all {
		all[i].Open, all[i].Close = -1, math.MaxInt
	}
	_ = append(first, make([]api.Row, 9)...)
	if !slices.Equal(second, kept) {
		t.Error(second, kept)
	}
	l.told(t, 258, kept, api.OK)
}

// TestWalk is of the chapter's ways: rows are told to a closure, one by one, from the first one on.
func TestWalk(t *testing.T) {
	r := rand.New(rand.NewSource(209))
	for range 200 {
		l := lent{r.Intn(1000000), r.Intn(5000), someParts(r, 1+r.Intn(20))}
		pay := r.Intn(l.money/len(l.parts) + 100)
		var rows []api.Row
		debt{l.money, l.rate, l.parts}.walk(pay, func(row api.Row) { rows = append(rows, row) })
		if want := l.with(t, pay); !slices.Equal(rows, want) {
			t.Fatal(l, pay, rows, want)
		}
	}
}

// TestHalves is of the chapter's ways: from whichever payment that is enough the least one is sought, it is the same.
func TestHalves(t *testing.T) {
	d := debt{1000, 500, quarterly(0, 0, 4).parts}
	for high := 258; high < 1200; high++ {
		if got := d.least(high); got != 258 {
			t.Fatal(high, got)
		}
	}
	for _, high := range []int{most - 1, most, math.MaxInt - 1, math.MaxInt} {
		if got := d.least(high); got != 258 {
			t.Error(high, got)
		}
	}
	nothing := debt{0, 500, quarterly(0, 0, 4).parts}
	for high := range 100 {
		if got := nothing.least(high); got != 0 {
			t.Error(high, got)
		}
	}
}
