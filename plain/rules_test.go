package plain

import (
	"math/rand"
	"slices"
	"sync"
	"testing"

	"demurrage/api"
)

// question is what is asked of both calls.
type question struct {
	money, rate int
	parts       []api.Ratio
}

// answer is what both tell.
type answer struct {
	bullet, equal []api.Row
	e, f          api.Errno
}

// ask asks both calls.
func (q question) ask() answer {
	var a answer
	a.bullet, a.e = Bullet(q.money, q.rate, q.parts)
	a.equal, a.f = Equal(q.money, q.rate, q.parts)
	return a
}

// same: are two answers the same?
func (a answer) same(b answer) bool {
	return slices.Equal(a.bullet, b.bullet) && slices.Equal(a.equal, b.equal) && a.e == b.e && a.f == b.f
}

// someQuestion is one by chance, often one that has an answer.
func someQuestion(r *rand.Rand) question {
	q := question{r.Intn(1000000000), r.Intn(20000), someParts(r, 1+r.Intn(20))}
	if r.Intn(8) == 0 {
		q.money = noMoney()[r.Intn(len(noMoney()))]
	}
	if r.Intn(8) == 0 {
		q.rate = noRates()[r.Intn(len(noRates()))]
	}
	if r.Intn(8) == 0 {
		q.parts[r.Intn(len(q.parts))] = append(wrongParts(), api.Ratio{N: most, D: 1})[r.Intn(len(wrongParts())+1)]
	}
	if r.Intn(20) == 0 {
		q.parts = nil
	}
	return q
}

// through asks many questions in an order of its own, and tells the first one that is answered otherwise than before.
func through(t *testing.T, seed int64, questions []question, answers []answer) {
	for _, i := range rand.New(rand.NewSource(seed)).Perm(len(questions)) {
		if got := questions[i].ask(); !got.same(answers[i]) {
			t.Errorf("%+v: %+v, then %+v", questions[i], answers[i], got)
			return
		}
	}
}

// TestNothingKept is of R4: calls answer alike in any order, one behind the other and beside each other.
func TestNothingKept(t *testing.T) {
	r := rand.New(rand.NewSource(193))
	questions, answers := make([]question, 2000), make([]answer, 2000)
	for i := range questions {
		questions[i] = someQuestion(r)
		answers[i] = questions[i].ask()
	}
	through(t, 194, questions, answers)
	through(t, 195, questions, answers)
	var wait sync.WaitGroup
	for w := range int64(8) {
		wait.Go(func() { through(t, w, questions, answers) })
	}
	wait.Wait()
}

// TestHandedIn is of R3: the parts are not written into, nor what lies behind their end in the same memory.
func TestHandedIn(t *testing.T) {
	parts := slices.Concat(usual(), wrongParts(), []api.Ratio{{N: most, D: 1}}, usual())
	before := slices.Clone(parts)
	for _, each := range calls() {
		for n := range len(parts) + 1 {
			for _, rate := range []int{500, 0, -1, 20000} {
				each(100000, rate, parts[:n])
				each(1000, rate, parts[n:])
				each(-1, rate, parts[n:])
			}
		}
	}
	if !slices.Equal(parts, before) {
		t.Error(parts)
	}
}

// TestNotKept is of R3: what is written later into the parts that were handed in turns nothing that was told.
func TestNotKept(t *testing.T) {
	want := laid([][5]int{{1000, 12, 250, 262, 750}, {750, 9, 250, 259, 500}, {500, 6, 250, 256, 250}, {250, 3, 250, 253, 0}})
	for name, each := range calls() {
		parts := alike(4, quarter())
		rows, e := each(1000, 500, parts)
		kept := slices.Clone(rows)
		clear(parts)
		if e != api.OK || !slices.Equal(rows, kept) || name == "Equal" && !slices.Equal(rows, want) {
			t.Error(name, rows, e)
		}
		refused(t, 1000, 500, parts, api.ErrArg)
		told(t, name, 1000, 500, alike(4, quarter()), kept, api.OK)
	}
}

// TestOwnMemory is of R3: what was answered isn't turned by a later call, and no later call by what is done to it.
func TestOwnMemory(t *testing.T) {
	for name, each := range calls() {
		first, _ := each(1000, 500, alike(4, quarter()))
		kept := slices.Clone(first)
		for i := range 100 {
			for _, other := range calls() {
				other(i, 700, usual())
				other(i, 700, usual()[:i%4])
			}
		}
		if !slices.Equal(first, kept) {
			t.Error(name, first, kept)
		}
		all := first[:cap(first)]
		for i := range all {
			all[i] = api.Row{Open: -1, Int: -1, Back: -1, Pay: -1, Close: -1}
		}
		_ = append(first, api.Row{}, api.Row{})
		told(t, name, 1000, 500, alike(4, quarter()), kept, api.OK)
		second, _ := each(1000, 500, alike(4, quarter()))
		third, _ := each(1000, 500, alike(4, quarter()))
		clear(second)
		if !slices.Equal(third, kept) {
			t.Error(name, third, kept)
		}
	}
}

// TestLayer is of the chapter's ways: each closure keeps what is open by itself, and nothing where there is a code.
func TestLayer(t *testing.T) {
	a, b := layer(100, 1000, 30), layer(7, 0, 2)
	year := api.Ratio{N: 1, D: 1}
	steps := []struct {
		next func(api.Ratio, bool) (api.Row, api.Errno)
		part api.Ratio
		last bool
		want [5]int
		e    api.Errno
	}{
		{a, year, false, [5]int{100, 10, 30, 40, 70}, api.OK},
		{b, year, false, [5]int{7, 0, 2, 2, 5}, api.OK},
		{a, api.Ratio{}, false, [5]int{}, api.ErrArg},
		{a, year, false, [5]int{70, 7, 30, 37, 40}, api.OK},
		{b, api.Ratio{N: 1, D: most}, true, [5]int{}, api.ErrOver},
		{b, year, true, [5]int{5, 0, 5, 5, 0}, api.OK},
		{a, year, true, [5]int{40, 4, 40, 44, 0}, api.OK},
	}
	for i, step := range steps {
		row, e := step.next(step.part, step.last)
		if row != laid([][5]int{step.want})[0] || e != step.e {
			t.Error(i, row, e)
		}
	}
}

// TestKinds is of the chapter's ways: which kind a table is of its field tells.
func TestKinds(t *testing.T) {
	for _, money := range []int{0, 1, 7, 100, greatest} {
		for _, rows := range []int{1, 2, 3, 7, mostRows} {
			if got := bullet().back(money, rows); got != 0 {
				t.Error(money, rows, got)
			}
			if got := equal().back(money, rows); got != money/rows {
				t.Error(money, rows, got)
			}
		}
	}
}
