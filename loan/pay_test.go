package loan

import (
	"math"
	"math/big"
	"math/rand"
	"testing"

	"demurrage/api"
)

// paid is P22.4, word by word.
func paid(t *testing.T, l api.Loan, day, money int) (api.Loan, api.Resp) {
	t.Helper()
	if day < firstDay || day > lastDay {
		return l, api.Resp{Err: api.ErrDay}
	}
	if day < l.From {
		return l, api.Resp{Err: api.ErrOrder}
	}
	if money < 0 || money > mostPaid {
		return l, api.Resp{Err: api.ErrBound}
	}
	owed := owes(t, l, day)
	a := min(money, owed)
	b := min(money-a, l.Open)
	behind := gone(t, l, day)
	behind.Due, behind.Open = owed-a, l.Open-b
	behind.Int, behind.Back = l.Int+a, l.Back+b
	if day > lastOf(l) {
		day = lastOf(l)
	}
	behind.From = max(behind.From, day)
	return behind, api.Resp{A: a, B: b, C: money - a - b}
}

// pays holds Pay against the chapter's words, and tells the loan behind it.
func pays(t *testing.T, l api.Loan, day, money int) api.Loan {
	t.Helper()
	handed := apart(l)
	want, told := paid(t, l, day, money)
	got, resp := Pay(handed, day, money)
	if resp != told || !same(got, want) {
		t.Errorf("Pay(%+v, %d, %d) = %v, %v, not %v, %v", l, day, money, counters(got), resp, counters(want), told)
	}
	if !same(handed, l) {
		t.Errorf("%+v became %+v", l, handed)
	}
	if told.Err == api.OK {
		sums(t, got, resp, money)
	}
	return got
}

// sums holds a loan behind a payment, and what is told of it, against P22.5.
func sums(t *testing.T, l api.Loan, r api.Resp, money int) {
	t.Helper()
	all := new(big.Int)
	for _, n := range []int{r.A, r.B, r.C} {
		all.Add(all, big.NewInt(int64(n)))
	}
	if all.Cmp(big.NewInt(int64(money))) != 0 || min(r.A, r.B, r.C) < 0 {
		t.Errorf("%v doesn't sum up to %d", r, money)
	}
	if l.Open+l.Back != l.Terms.Money || min(l.Open, l.Back, l.Due, l.Int) < 0 {
		t.Errorf("%v doesn't sum up to %d", counters(l), l.Terms.Money)
	}
}

// payments are amounts at which a payment turns: nothing, less than is owed, just that, more, what settles the loan, and the greatest.
func payments(owed, open int) []int {
	return []int{0, 1, owed / 2, max(owed-1, 0), owed, owed + 1, owed + open/2, max(owed+open-1, 0), owed + open, owed + open + 1, mostPaid - 1, mostPaid}
}

// reckonedPay is a payment, what is told of it, and the loan behind it: Open, Due, From, Back and Int.
type reckonedPay struct {
	day, money int
	told       api.Resp
	turned     [5]int
}

// held holds Pay against what was reckoned by hand, and tells the loan behind it.
func (w reckonedPay) held(t *testing.T, l api.Loan) api.Loan {
	t.Helper()
	got, told := Pay(l, w.day, w.money)
	if told != w.told || counters(got) != w.turned || got.Terms != l.Terms || !samePlan(got.Plan, l.Plan) {
		t.Errorf("Pay(%v, %d, %d) = %v, %v, not %v, %v", counters(l), w.day, w.money, counters(got), told, w.turned, w.told)
	}
	return pays(t, l, w.day, w.money)
}

// TestPayReckoned is of P22.4: payments into the chapter's loan, by hand.
func TestPayReckoned(t *testing.T) {
	l := opened(t, year(), api.Cal{})
	for _, w := range []reckonedPay{
		// Ahead of the first rolled day that bears interest.
		{738945, 0, api.Resp{}, [5]int{100000, 0, 738945, 0, 0}}, {738945, 40000, api.Resp{B: 40000}, [5]int{60000, 0, 738945, 40000, 0}}, {738945, 100001, api.Resp{B: 100000, C: 1}, [5]int{0, 0, 738945, 100000, 0}},
		// Of 45 days, which bear 625.
		{738990, 0, api.Resp{}, [5]int{100000, 625, 738990, 0, 0}}, {738990, 600, api.Resp{A: 600}, [5]int{100000, 25, 738990, 0, 600}}, {738990, 625, api.Resp{A: 625}, [5]int{100000, 0, 738990, 0, 625}},
		{738990, 626, api.Resp{A: 625, B: 1}, [5]int{99999, 0, 738990, 1, 625}}, {738990, 50625, api.Resp{A: 625, B: 50000}, [5]int{50000, 0, 738990, 50000, 625}},
		{738990, 100624, api.Resp{A: 625, B: 99999}, [5]int{1, 0, 738990, 99999, 625}}, {738990, 100625, api.Resp{A: 625, B: 100000}, [5]int{0, 0, 738990, 100000, 625}}, {738990, 100626, api.Resp{A: 625, B: 100000, C: 1}, [5]int{0, 0, 738990, 100000, 625}},
		{738990, mostPaid, api.Resp{A: 625, B: 100000, C: mostPaid - 100625}, [5]int{0, 0, 738990, 100000, 625}},
		// On a rolled day, on the day behind it, on the last day, and behind that.
		{739035, 1000, api.Resp{A: 1000}, [5]int{100000, 250, 739035, 0, 1000}}, {739036, 2000, api.Resp{A: 1264, B: 736}, [5]int{99264, 0, 739036, 736, 1264}},
		{739310, 5070, api.Resp{A: 5070}, [5]int{100000, 0, 739310, 0, 5070}}, {739311, 5000, api.Resp{A: 5000}, [5]int{100000, 70, 739310, 0, 5000}}, {lastDay, 200000, api.Resp{A: 5070, B: 100000, C: 94930}, [5]int{0, 0, 739310, 100000, 5070}},
	} {
		w.held(t, l)
	}
}

// TestPayOnAndOn is of P22.4: payments one behind the other, twice on one day and behind the last day, by hand.
func TestPayOnAndOn(t *testing.T) {
	l := opened(t, year(), api.Cal{})
	for _, w := range []reckonedPay{
		{738990, 500, api.Resp{A: 500}, [5]int{100000, 125, 738990, 0, 500}}, {738990, 500, api.Resp{A: 125, B: 375}, [5]int{99625, 0, 738990, 375, 625}},
		// 45 days bear 622.66, the next 92 bear 1273 (of 1272.99), 10 more 138.37.
		{739137, 0, api.Resp{}, [5]int{99625, 623 + 1273 + 138, 739137, 375, 625}}, {739137, 51659, api.Resp{A: 2034, B: 49625}, [5]int{50000, 0, 739137, 50000, 2659}},
		// 82 days bear 569.44, 91 more 631.94.
		{739320, 201, api.Resp{A: 201}, [5]int{50000, 1000, 739310, 50000, 2860}}, {739319, 1000, api.Resp{A: 1000}, [5]int{50000, 0, 739310, 50000, 3860}}, {739310, 20000, api.Resp{B: 20000}, [5]int{30000, 0, 739310, 70000, 3860}},
		{lastDay, 30001, api.Resp{B: 30000, C: 1}, [5]int{0, 0, 739310, 100000, 3860}}, {lastDay, 7, api.Resp{C: 7}, [5]int{0, 0, 739310, 100000, 3860}}, {739310, 0, api.Resp{}, [5]int{0, 0, 739310, 100000, 3860}},
	} {
		l = w.held(t, l)
	}
}

// TestPayCodes is of P22.4: each code, just at its bound and one beside it, and more of them together.
func TestPayCodes(t *testing.T) {
	first := opened(t, year(), api.Cal{})
	part, _ := Pay(first, 739000, 2000)
	for _, l := range []api.Loan{first, part, opened(t, year(), busy())} {
		refuses := func(code api.Errno, day, money int) {
			t.Helper()
			if got, told := Pay(l, day, money); told != (api.Resp{Err: code}) || !same(got, l) {
				t.Errorf("Pay(%v, %d, %d) = %v, %v, not %d", counters(l), day, money, counters(got), told, code)
			}
			pays(t, l, day, money)
		}
		for _, money := range []int{0, 1, mostPaid, -1, mostPaid + 1, math.MinInt, math.MaxInt} {
			for _, day := range noDays() {
				refuses(api.ErrDay, day, money)
			}
			for _, day := range []int{firstDay, l.From - 100, l.From - 1} {
				refuses(api.ErrOrder, day, money)
			}
		}
		for _, day := range []int{l.From, l.From + 1, lastOf(l), lastDay} {
			for _, money := range []int{-1, -100000, math.MinInt, mostPaid + 1, math.MaxInt} {
				refuses(api.ErrBound, day, money)
			}
			for _, money := range []int{0, mostPaid} {
				if _, told := Pay(l, day, money); told.Err != api.OK {
					t.Error(day, money, told)
				}
			}
		}
	}
}

// TestPayAll is of P22.4 and P22.5: loans by each way to count and to roll, on all days at which they may turn, by all amounts at which a payment may.
func TestPayAll(t *testing.T) {
	for x, c := range each(at(t, "2023-12-31"), at(t, "2025-02-28"), []int{0}, []int{4}) {
		l := opened(t, x, c)
		for _, each := range []api.Loan{l, pays(t, l, l.From+50, 1000)} {
			for _, day := range watched(each) {
				for _, money := range payments(owes(t, each, day), each.Open) {
					pays(t, each, day, money)
				}
			}
		}
	}
}

// TestPayBounds is of P22.4 and P22.5: the least and the greatest loans, over 1200 years, at both ends of the days that are.
func TestPayBounds(t *testing.T) {
	for _, both := range [][2]int{{9000000000000, 1000000}, {api.MaxMoney, 9000}, {api.MaxMoney, 0}, {1, 0}, {1, 1000000}} {
		for _, days := range [][2]int{{firstDay, 438292}, {lastDay - 438291, lastDay}, {firstDay, 2}, {lastDay - 1, lastDay}} {
			x := year()
			x.Money, x.Rate, x.Start, x.End, x.Months = both[0], both[1], days[0], days[1], 12
			l := opened(t, x, api.Cal{})
			for _, day := range watched(l) {
				for _, money := range payments(owes(t, l, day), l.Open) {
					pays(t, l, day, money)
				}
			}
		}
	}
}

// TestPayByChance is of P22.4 and P22.5: rows of payments by chance, up to the end and behind it.
func TestPayByChance(t *testing.T) {
	r := rand.New(rand.NewSource(223))
	for range 2000 {
		l := anyLoan(r)
		for range 12 {
			day := l.From + r.Intn(1+(lastOf(l)-l.From)/4+40)
			if r.Intn(12) == 0 {
				day = lastDay - r.Intn(1000)
			}
			day = min(day, lastDay)
			amounts := payments(owes(t, l, day), l.Open)
			money := amounts[r.Intn(len(amounts))]
			if r.Intn(2) == 0 {
				money = r.Intn(1 + money)
			}
			l = pays(t, l, day, money)
		}
	}
}
