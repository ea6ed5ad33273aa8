package loan

import (
	"math"
	"math/rand"
	"slices"
	"sync"
	"testing"

	"demurrage/api"
)

// question is what is asked of all calls: terms, a calendar, days, and money.
type question struct {
	terms      api.Terms
	cal        api.Cal
	day, later int
	money      int
}

// reply is what they tell, one behind the other.
type reply struct {
	opened, gone, paid api.Loan
	rows               []api.Row
	owed, all          int
	codes              [5]api.Errno
	told               api.Resp
}

func (q question) ask() reply {
	var a reply
	a.opened, a.codes[0] = Open(q.terms, q.cal)
	a.gone, a.codes[1] = Go(a.opened, q.day)
	a.paid, a.told = Pay(a.gone, q.later, q.money)
	a.rows, a.codes[2] = Rows(a.paid)
	a.owed, a.codes[3] = Owed(a.paid, q.later+30)
	a.all, a.codes[4] = Quote(a.paid, q.later+60)
	return a
}

func (a reply) differs(b reply) bool {
	return !same(a.opened, b.opened) || !same(a.gone, b.gone) || !same(a.paid, b.paid) || !slices.Equal(a.rows, b.rows) ||
		a.owed != b.owed || a.all != b.all || a.codes != b.codes || a.told != b.told
}

// questions are some by chance, most of them such that are answered.
func questions(r *rand.Rand, n int) []question {
	all := make([]question, n)
	for i := range all {
		x := anyTerms(r)
		q := question{x, cals()[r.Intn(4)], x.Start + r.Intn(300), x.Start + r.Intn(600), r.Intn(1 + 2*x.Money)}
		switch r.Intn(12) {
		case 0:
			q.terms.Months = 5
		case 1:
			q.money = -1
		case 2:
			q.day = 0
		}
		all[i] = q
	}
	return all
}

// TestCallsBeside is of R4: what is answered hangs on no call ahead, nor on one that goes on beside it.
func TestCallsBeside(t *testing.T) {
	r := rand.New(rand.NewSource(225))
	all := questions(r, 200)
	var first []reply
	orders := [][]int{r.Perm(200), r.Perm(200), r.Perm(200), r.Perm(200)}
	for i, q := range all {
		first = append(first, q.ask())
		orders = append(orders, []int{i, i / 2, i})
	}
	var wait sync.WaitGroup
	for _, order := range orders {
		wait.Go(func() {
			for _, i := range order {
				if again := all[i].ask(); again.differs(first[i]) {
					t.Errorf("%+v: %+v, then %+v", all[i], first[i], again)
				}
			}
		})
	}
	wait.Wait()
}

// TestOneLoanBeside is of R3 and R4: one loan is asked by many at once, and is as it was.
func TestOneLoanBeside(t *testing.T) {
	x := year()
	x.Count, x.Months = api.CICMA, 1
	l := opened(t, x, busy())
	kept := apart(l)
	var wait sync.WaitGroup
	for i := range 8 {
		wait.Go(func() {
			for day := l.From; day < lastOf(l)+20; day++ {
				pays(t, l, day, 1000*i)
				goes(t, l, day)
			}
		})
	}
	wait.Wait()
	if !same(l, kept) {
		t.Error(l, kept)
	}
}

// TestHandedIn is of R3: a calendar, and a loan whose lists are pieces of longer ones, aren't written into, neither within nor behind them.
func TestHandedIn(t *testing.T) {
	c := busy()
	c.Rules, c.Days = append(slices.Clone(c.Rules), api.Rule{})[:len(c.Rules)], append(slices.Clone(c.Days), -1)[:len(c.Days)]
	for x := year(); x.Count < 7; x.Count++ {
		l := opened(t, x, c)
		p := &l.Plan
		p.Days, p.Rolled = append(slices.Clone(p.Days), -1)[:len(p.Days)], append(slices.Clone(p.Rolled), -1)[:len(p.Rolled)]
		p.Parts, p.Side.Refs = append(slices.Clone(p.Parts), api.Ratio{N: -1})[:len(p.Parts)], append(slices.Clone(p.Side.Refs), -1)[:len(p.Side.Refs)]
		kept := apart(l)
		for _, day := range watched(l) {
			goes(t, l, day)
			pays(t, l, day, 1300)
			lays(t, l)
		}
		if !same(l, kept) || p.Days[:len(p.Days)+1][len(p.Days)] != -1 || p.Rolled[:len(p.Rolled)+1][len(p.Rolled)] != -1 || p.Side.Refs[:len(p.Side.Refs)+1][len(p.Side.Refs)] != -1 || p.Parts[:len(p.Parts)+1][len(p.Parts)].N != -1 {
			t.Error(l, kept)
		}
	}
	again := busy()
	if c.Off != again.Off || !slices.Equal(c.Rules, again.Rules) || !slices.Equal(c.Days, again.Days) || c.Rules[:len(c.Rules)+1][len(c.Rules)] != (api.Rule{}) || c.Days[:len(c.Days)+1][len(c.Days)] != -1 {
		t.Error(c)
	}
}

// TestAnswersStay is of R3: an answer is turned neither by later calls nor by what becomes of the calendar, and what is done to a table turns no later one.
func TestAnswersStay(t *testing.T) {
	r := rand.New(rand.NewSource(226))
	for way := range 7 {
		x := year()
		x.Count, x.Roll = way, api.LModNext
		c := busy()
		l := opened(t, x, c)
		later, _ := Go(l, 739100)
		part, told := Pay(later, 739130, 5000)
		none, _ := Pay(part, 739200, 500000)
		rows, _ := Rows(l)
		kept, keptRows := []api.Loan{apart(l), apart(later), apart(part), apart(none)}, slices.Clone(rows)
		clear(c.Days)
		clear(c.Rules)
		for _, q := range questions(r, 40) {
			q.ask()
		}
		for i, each := range []api.Loan{l, later, part, none} {
			pays(t, each, 739300, 700)
			if goes(t, each, 739300); !same(each, kept[i]) {
				t.Error(way, i, each, kept[i])
			}
		}
		if again, resp := Pay(later, 739130, 5000); !same(again, part) || resp != told || !slices.Equal(rows, keptRows) {
			t.Error(way, again, part, rows)
		}
		clear(rows)
		if again, _ := Rows(part); !slices.Equal(again, keptRows) {
			t.Error(way, again, keptRows)
		}
	}
}

// TestTurnedByHand is of R4: what Due, Int, Back and Open of a loan are is handed on, and not reckoned anew.
func TestTurnedByHand(t *testing.T) {
	l := opened(t, year(), api.Cal{})
	l.Open, l.Due, l.Int, l.Back = 60000, 11, 777, 40000
	for _, day := range watched(l) {
		goes(t, l, day)
		pays(t, l, max(day, l.From), 20000)
	}
	if later, _ := Go(l, 739040); counters(later) != [5]int{60000, 761, 739035, 40000, 777} {
		t.Error(counters(later))
	}
	// Behind the last day From stays.
	l.From = lastOf(l) + 10
	for _, day := range []int{l.From, l.From + 1, lastDay} {
		goes(t, l, day)
		reckonedPay{day, 20, api.Resp{A: 11, B: 9}, [5]int{59991, 0, l.From, 40009, 788}}.held(t, l)
	}
}

// TestNoLoans is of the language's rules: what is no loan is answered too, be it by a code and as it was, or by what it has, without a panic.
func TestNoLoans(t *testing.T) {
	for code, turn := range map[api.Errno]func(l *api.Loan){
		api.ErrArg: func(l *api.Loan) { l.Terms.Count = 7 },
		api.ErrDay: func(l *api.Loan) { l.From = math.MinInt },
		// The first period bears interest, the second one none.
		api.ErrSide: func(l *api.Loan) { l.Terms.Count, l.Plan.Side.Refs = api.CICMA, []int{738945, 739035} },
	} {
		wrong := opened(t, year(), api.Cal{})
		turn(&wrong)
		for _, day := range []int{739127, 739130, lastDay} {
			later, e := Go(wrong, day)
			owed, other := Owed(wrong, day)
			all, third := Quote(wrong, day)
			behind, told := Pay(wrong, day, 2)
			if !same(later, wrong) || owed != 0 || all != 0 || !same(behind, wrong) || [3]api.Errno{e, other, third} != [3]api.Errno{code, code, code} || told != (api.Resp{Err: code}) {
				t.Error(code, day, counters(later), e, owed, other, all, third, counters(behind), told)
			}
		}
	}
	none := api.Loan{Open: 5, Due: 3, From: 4}
	later, _ := Go(none, 9)
	owed, _ := Owed(none, 9)
	if behind, told := Pay(none, 9, 4); !same(later, none) || owed != 3 || told != (api.Resp{A: 3, B: 1}) || counters(behind) != [5]int{4, 0, 4, 1, 3} {
		t.Error(later, owed, behind, told)
	}
}

// TestRowOfPots is of the chapter's ways: each pot takes of what the ones ahead of it have left, and tells it.
func TestRowOfPots(t *testing.T) {
	for _, w := range []struct{ left, owed, took int }{{0, 0, 0}, {0, 5, 0}, {3, 5, 3}, {5, 5, 5}, {8, 5, 5}, {mostPaid, 0, 0}, {mostPaid, mostPaid, mostPaid}} {
		owed, paid, told := w.owed, 10, -1
		if left := into(&owed, &paid, &told)(w.left); left != w.left-w.took || owed != w.owed-w.took || paid != 10+w.took || told != w.took {
			t.Error(w, left, owed, paid, told)
		}
	}
}
