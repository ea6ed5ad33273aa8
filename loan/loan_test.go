package loan

import (
	"iter"
	"math/big"
	"math/rand"
	"slices"
	"testing"

	"demurrage/api"
	"demurrage/count"
	"demurrage/iso"
	"demurrage/sched"
)

const (
	firstDay = 1
	lastDay  = 3652059
	mostPaid = 9000000000000000000
)

// at is the number of a day such as 2024-02-29.
func at(t *testing.T, text string) int {
	t.Helper()
	day, e := iso.Read(text)
	if e != api.OK {
		t.Fatal(text, e)
	}
	return day
}

// closed is a calendar in which a run of days is off, and nothing else.
func closed(from, to int) api.Cal {
	var c api.Cal
	for day := max(from, firstDay); day <= min(to, lastDay); day++ {
		c.Days = append(c.Days, day)
	}
	return c
}

// weekends is a calendar in which Saturdays and Sundays are off.
func weekends() api.Cal { return api.Cal{Off: [7]bool{5: true, 6: true}} }

// busy is a calendar with many holidays: weekends, rules, and seven weeks of days.
func busy() api.Cal {
	c := closed(738965, 738965+49)
	c.Off = weekends().Off
	c.Rules = []api.Rule{{Kind: api.RFixed, Month: 1, Day: 1, Shift: api.SNear, From: 1, To: 9999}, {Kind: api.RNth, Month: 11, Day: 3, K: 4, From: 1, To: 9999}, {Kind: api.RLast, Month: 5, From: 1, To: 9999}, {Kind: api.REaster, Off: -2, From: 1, To: 9999}}
	return c
}

// cals are calendars without holidays and with many.
func cals() []api.Cal {
	return []api.Cal{{}, weekends(), busy(), {Off: [7]bool{0: true, 1: true, 2: true, 3: true, 5: true, 6: true}}}
}

// year are the terms of the chapter's example: four periods of 90, 92, 92 and 91 days.
func year() api.Terms {
	return api.Terms{Money: 100000, Rate: 500, Count: api.CA360, Start: 738945, End: 739310, Months: 3}
}

// flags tells Back, Long and Eom of terms by a number's bits.
func flags(x api.Terms, bits int) api.Terms {
	x.Back, x.Long, x.Eom = bits&1 != 0, bits&2 != 0, bits&4 != 0
	return x
}

// each are terms from one day to another one, of these kinds and months of a period, by each way to count and to roll, with and without Back, Long and Eom, by each calendar.
func each(start, end int, kinds, months []int) iter.Seq2[api.Terms, api.Cal] {
	return func(yield func(api.Terms, api.Cal) bool) {
		var all []api.Terms
		for _, kind := range kinds {
			for _, apart := range months {
				for n := range 8 * 7 * 5 {
					all = append(all, flags(api.Terms{Money: 100000, Rate: 500, Kind: kind, Count: n / 8 % 7, Start: start, End: end, Months: apart, Roll: n / 56}, n%8))
				}
			}
		}
		for _, c := range cals() {
			for _, x := range all {
				if !yield(x, c) {
					return
				}
			}
		}
	}
}

// opened is a loan that must open.
func opened(t *testing.T, x api.Terms, c api.Cal) api.Loan {
	t.Helper()
	l, e := Open(x, c)
	if e != api.OK {
		t.Fatalf("Open(%+v) = %d", x, e)
	}
	return l
}

// anyTerms are terms by chance, most of which may be.
func anyTerms(r *rand.Rand) api.Terms {
	x := api.Terms{Kind: r.Intn(3), Count: r.Intn(7), Months: []int{1, 2, 3, 4, 6, 12}[r.Intn(6)], Roll: r.Intn(5)}
	x.Money = 1 + r.Intn(1<<(1+r.Intn(49)))
	x.Rate = min(r.Intn(1<<r.Intn(21)), 1000000, mostPaid/x.Money)
	x.Start = 738000 + r.Intn(2000)
	switch r.Intn(8) {
	case 0:
		x.Start = firstDay + r.Intn(90)
	case 1:
		x.Start = lastDay - 1500 - r.Intn(90)
	}
	x.End = min(x.Start+1+r.Intn(1+x.Months*r.Intn(400)), lastDay)
	return flags(x, r.Intn(8))
}

// anyLoan is a loan by chance.
func anyLoan(r *rand.Rand) api.Loan {
	for {
		all := cals()
		if l, e := Open(anyTerms(r), all[r.Intn(len(all))]); e == api.OK {
			return l
		}
	}
}

// lastOf is a loan's last day.
func lastOf(l api.Loan) int { return l.Plan.Rolled[len(l.Plan.Rolled)-1] }

// apart is a loan in memory of its own.
func apart(l api.Loan) api.Loan {
	l.Plan.Days, l.Plan.Rolled, l.Plan.Parts, l.Plan.Side.Refs = slices.Clone(l.Plan.Days), slices.Clone(l.Plan.Rolled), slices.Clone(l.Plan.Parts), slices.Clone(l.Plan.Side.Refs)
	return l
}

// samePlan: are two plans the same, list by list?
func samePlan(a, b api.Plan) bool {
	return slices.Equal(a.Days, b.Days) && slices.Equal(a.Rolled, b.Rolled) && slices.Equal(a.Parts, b.Parts) &&
		a.Side.Eom == b.Side.Eom && a.Side.End == b.Side.End && a.Side.Freq == b.Side.Freq && slices.Equal(a.Side.Refs, b.Side.Refs)
}

// same: are two loans the same, field by field?
func same(a, b api.Loan) bool {
	return a.Terms == b.Terms && samePlan(a.Plan, b.Plan) && counters(a) == counters(b)
}

// counters are what days and payments turn of a loan: Open, Due, From, Back and Int.
func counters(l api.Loan) [5]int { return [5]int{l.Open, l.Due, l.From, l.Back, l.Int} }

// interest is what so much bears from a day to another one, by numbers of any size and chapter 10's part of a year.
func interest(t *testing.T, l api.Loan, open, from, to int) int {
	t.Helper()
	part, e := count.Part(l.Terms.Count, from, to, l.Plan.Side)
	if e != api.OK {
		t.Fatalf("%+v: %d to %d: %d", l.Terms, from, to, e)
	}
	top := big.NewInt(int64(open))
	for _, n := range []int{l.Terms.Rate, part.N} {
		top.Mul(top, big.NewInt(int64(n)))
	}
	bottom := new(big.Int).Mul(big.NewInt(10000), big.NewInt(int64(part.D)))
	often, left := new(big.Int).QuoRem(top, bottom, new(big.Int))
	half := left.Lsh(left, 1).Cmp(bottom)
	if half > 0 || half == 0 && often.Bit(0) == 1 {
		often.Add(often, big.NewInt(1))
	}
	if !often.IsInt64() {
		t.Fatal(often)
	}
	return int(often.Int64())
}

// TestGiven holds the numbers of these tests against the given ones.
func TestGiven(t *testing.T) {
	if api.MinDay != firstDay || api.MaxDay != lastDay || api.MaxBoth != mostPaid || api.MaxMoney != 1000000000000000 {
		t.Error(api.MinDay, api.MaxDay, api.MaxBoth, api.MaxMoney)
	}
	for i, code := range []api.Errno{api.OK, api.ErrArg, api.ErrBound, api.ErrDay, api.ErrOrder, api.ErrSide} {
		if int(code) != i {
			t.Error(i, code)
		}
	}
	if api.ErrNone != 8 {
		t.Error(api.ErrNone)
	}
}

// opens holds Open against P22.1 and tells the code.
func opens(t *testing.T, x api.Terms, c api.Cal) api.Errno {
	t.Helper()
	plan, code := sched.Of(x, c)
	var want api.Loan
	if code == api.OK {
		want = api.Loan{Terms: x, Plan: plan, Open: x.Money, From: plan.Rolled[0]}
	}
	if got, e := Open(x, c); e != code || !same(got, want) {
		t.Errorf("Open(%+v) = %+v, %d, not %+v, %d", x, got, e, want, code)
	}
	return code
}

// TestOpenFields is of P22.1: each field of a loan, one of which begins on a Saturday, and so from the Monday behind it on.
func TestOpenFields(t *testing.T) {
	x := year()
	x.Start, x.End, x.Roll, x.Kind = at(t, "2024-03-02"), at(t, "2024-09-07"), api.LNext, api.TLevel
	l := opened(t, x, weekends())
	if l.Terms != x || l.Open != 100000 || l.Due != 0 || l.From != at(t, "2024-03-04") || l.Back != 0 || l.Int != 0 {
		t.Errorf("%+v", l)
	}
	rolled := []int{at(t, "2024-03-04"), at(t, "2024-06-03"), at(t, "2024-09-02"), at(t, "2024-09-09")}
	parts := []api.Ratio{{N: 91, D: 360}, {N: 91, D: 360}, {N: 7, D: 360}}
	if !slices.Equal(l.Plan.Rolled, rolled) || !slices.Equal(l.Plan.Parts, parts) || l.Plan.Days[0] != x.Start || len(l.Plan.Days) != 4 {
		t.Errorf("%+v", l.Plan)
	}
	if l = opened(t, x, api.Cal{}); l.From != x.Start {
		t.Errorf("%+v", l)
	}
	x.Roll = api.LPrev
	if l = opened(t, x, weekends()); l.From != at(t, "2024-03-01") {
		t.Errorf("%+v", l)
	}
}

// TestOpenAll is of P22.1: terms of each kind, by each way to count and to roll, with periods of each length, by each calendar.
func TestOpenAll(t *testing.T) {
	for x, c := range each(at(t, "2023-12-31"), at(t, "2025-03-30"), []int{0, 1, 2}, []int{1, 2, 3, 4, 6, 12}) {
		if opens(t, x, c) != api.OK {
			t.Errorf("%+v", x)
		}
	}
}

// TestOpenBounds is of P22.1: the least and the greatest money and rate, and days at both ends.
func TestOpenBounds(t *testing.T) {
	for _, both := range [][2]int{{1, 0}, {1, 1000000}, {9000000000000, 1000000}, {api.MaxMoney, 9000}, {api.MaxMoney, 0}} {
		for _, days := range [][2]int{{firstDay, 400}, {firstDay, 2}, {lastDay - 400, lastDay}, {lastDay - 1, lastDay}} {
			x := year()
			x.Money, x.Rate, x.Start, x.End = both[0], both[1], days[0], days[1]
			if opens(t, x, api.Cal{}) != api.OK || opened(t, x, api.Cal{}).Open != both[0] {
				t.Errorf("%+v", x)
			}
		}
	}
}

// TestOpenCodes is of P22.1: each code of chapter 17, with nothing beside it.
func TestOpenCodes(t *testing.T) {
	refused := func(code api.Errno, c api.Cal, turn func(x *api.Terms)) {
		t.Helper()
		x := year()
		turn(&x)
		if opens(t, x, c) != code {
			t.Errorf("%+v", x)
		}
		if l, e := Open(x, c); e != code || !same(l, api.Loan{}) {
			t.Errorf("Open(%+v) = %+v, %d", x, l, e)
		}
	}
	refused(api.ErrArg, api.Cal{}, func(x *api.Terms) { *x = api.Terms{} })
	refused(api.ErrArg, api.Cal{}, func(x *api.Terms) { x.Kind = 3 })
	refused(api.ErrArg, api.Cal{}, func(x *api.Terms) { x.Count = 7 })
	refused(api.ErrArg, api.Cal{}, func(x *api.Terms) { x.Roll = 5 })
	refused(api.ErrArg, api.Cal{}, func(x *api.Terms) { x.Months = 5 })
	refused(api.ErrDay, api.Cal{}, func(x *api.Terms) { x.Start = 0 })
	refused(api.ErrDay, api.Cal{}, func(x *api.Terms) { x.End = lastDay + 1 })
	refused(api.ErrOrder, api.Cal{}, func(x *api.Terms) { x.End = x.Start })
	refused(api.ErrBound, api.Cal{}, func(x *api.Terms) { x.Money = 0 })
	refused(api.ErrBound, api.Cal{}, func(x *api.Terms) { x.Money = api.MaxMoney + 1 })
	refused(api.ErrBound, api.Cal{}, func(x *api.Terms) { x.Rate = -1 })
	refused(api.ErrBound, api.Cal{}, func(x *api.Terms) { x.Money, x.Rate = api.MaxMoney, 9001 })
	refused(api.ErrBound, api.Cal{}, func(x *api.Terms) { x.Start, x.End, x.Months = 1, lastDay, 1 })
	refused(api.ErrNone, closed(739000, 739099), func(x *api.Terms) { x.Roll = api.LNext })
	refused(api.ErrDay, closed(lastDay-9, lastDay), func(x *api.Terms) { x.Start, x.End, x.Roll = lastDay-100, lastDay, api.LNext })
	refused(api.ErrDay, closed(1, 9), func(x *api.Terms) { x.Start, x.End, x.Roll = 1, 100, api.LPrev })
	refused(api.ErrSide, api.Cal{}, func(x *api.Terms) { x.Start, x.End, x.Back, x.Count = 5, 20, true, api.CICMA })
}

// TestOpenByChance is of P22.1: terms by chance, by chance such that may not be.
func TestOpenByChance(t *testing.T) {
	r := rand.New(rand.NewSource(220))
	codes := map[api.Errno]int{}
	for range 3000 {
		x := anyTerms(r)
		x.Kind += r.Intn(20) / 19
		x.Money -= r.Intn(20) / 19 * x.Money
		x.Months -= r.Intn(20) / 19 * 12
		codes[opens(t, x, cals()[r.Intn(4)])]++
	}
	if codes[api.OK] < 1500 || codes[api.ErrArg] == 0 || codes[api.ErrBound] == 0 || codes[api.ErrDay] == 0 {
		t.Error(codes)
	}
}
