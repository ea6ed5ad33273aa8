package table

import (
	"math"
	"math/big"
	"math/rand"
	"slices"
	"testing"

	"demurrage/api"
)

// added is one number of each row, added up to whatever size.
func added(rows []api.Row, number func(api.Row) int) *big.Int {
	sum := new(big.Int)
	for _, row := range rows {
		sum.Add(sum, big.NewInt(int64(number(row))))
	}
	return sum
}

func interest(row api.Row) int { return row.Int }

func back(row api.Row) int { return row.Back }

func pay(row api.Row) int { return row.Pay }

// summed is P21.2, word by word.
func summed(rows []api.Row) (api.Row, api.Errno) {
	if len(rows) == 0 {
		return api.Row{}, api.OK
	}
	numbers := []func(api.Row) int{interest, back, pay}
	for _, number := range numbers {
		if slices.ContainsFunc(rows, func(row api.Row) bool { return number(row) < 0 }) {
			return api.Row{}, api.ErrArg
		}
	}
	for _, number := range numbers {
		if added(rows, number).Cmp(big.NewInt(bound)) > 0 {
			return api.Row{}, api.ErrOver
		}
	}
	all := func(number func(api.Row) int) int { return int(added(rows, number).Int64()) }
	return api.Row{Open: rows[0].Open, Int: all(interest), Back: all(back), Pay: all(pay), Close: rows[len(rows)-1].Close}, api.OK
}

// sumsTo holds Sums against what it should tell, and the words likewise.
func sumsTo(t *testing.T, rows []api.Row, want api.Row, code api.Errno) {
	t.Helper()
	if got, e := summed(rows); got != want || e != code {
		t.Fatalf("by the words %v: %v, %d, not %v, %d", rows[:min(9, len(rows))], got, e, want, code)
	}
	handed := slices.Clone(rows)
	if got, e := Sums(handed); got != want || e != code {
		t.Fatalf("Sums(%v..), of %d, = %v, %d, not %v, %d", rows[:min(9, len(rows))], len(rows), got, e, want, code)
	}
	if !slices.Equal(handed, rows) {
		t.Fatalf("Sums(%v) left them as %v", rows, handed)
	}
}

// settled is P21.3, of a table that was told.
func (o order) settled(t *testing.T, rows []api.Row) {
	t.Helper()
	money, all := big.NewInt(int64(o.money)), added(rows, interest)
	paid := added(rows, pay)
	if added(rows, back).Cmp(money) != 0 || paid.Cmp(all.Add(all, money)) != 0 {
		t.Fatalf("%+v: %v", o, rows)
	}
	if paid.Cmp(big.NewInt(bound)) > 0 {
		sumsTo(t, rows, api.Row{}, api.ErrOver)
		return
	}
	whole := int(paid.Int64())
	sumsTo(t, rows, api.Row{Open: o.money, Int: whole - o.money, Back: o.money, Pay: whole}, api.OK)
}

// TestChapterExample is the chapter's one.
func TestChapterExample(t *testing.T) {
	rows, e := Of(api.TEqual, 100, 0, alike(3, share(1, 1)))
	if e != api.OK {
		t.Fatal(e)
	}
	sumsTo(t, rows, api.Row{Open: 100, Back: 100, Pay: 100}, api.OK)
}

// TestSumsOfNone is of P21.2: no rows are all 0.
func TestSumsOfNone(t *testing.T) {
	many := lines(9, 1, 1, 2, 8, 8, -1, bound, bound, 3)
	for _, rows := range [][]api.Row{nil, {}, many[:0], many[1:1]} {
		if got, e := Sums(rows); got != (api.Row{}) || e != api.OK {
			t.Error(got, e)
		}
	}
}

// TestSums is of P21.2: each sum by itself, the first one's Open and the last one's Close, whatever they are.
func TestSums(t *testing.T) {
	for _, c := range []struct{ rows, want []int }{
		{[]int{0, 0, 0, 0, 0}, []int{0, 0, 0, 0, 0}},
		{[]int{5, 1, 2, 3, 3}, []int{5, 1, 2, 3, 3}},
		{[]int{5, 7, 11, 13, 17}, []int{5, 7, 11, 13, 17}},
		{[]int{1000, 50, 0, 50, 1000, 1000, 50, 1000, 1050, 0}, []int{1000, 100, 1000, 1100, 0}},
		{[]int{300, 30, 91, 121, 209, 209, 21, 100, 121, 109, 109, 11, 109, 120, 0}, []int{300, 62, 300, 362, 0}},
		{[]int{1, 2, 3, 4, 5, 6, 7, 8, 9, 10, 11, 12, 13, 14, 15, 16, 17, 18, 19, 20}, []int{1, 38, 42, 46, 20}},
		{[]int{0, 0, 0, 0, 7, 8, 0, 0, 0, 0}, []int{0, 0, 0, 0, 0}},
		{[]int{-5, 1, 0, 0, -6, 100, 0, 1, 0, 200, -7, 0, 0, 1, -8}, []int{-5, 1, 1, 1, -8}},
		{[]int{math.MinInt, 1, 2, 3, math.MaxInt}, []int{math.MinInt, 1, 2, 3, math.MaxInt}},
		{[]int{math.MaxInt, 1, 2, 3, 4, bound + 1, 1, 2, 3, math.MinInt}, []int{math.MaxInt, 2, 4, 6, math.MinInt}},
		{[]int{bound + 1, bound, bound, bound, -bound - 1}, []int{bound + 1, bound, bound, bound, -bound - 1}},
	} {
		sumsTo(t, lines(c.rows...), lines(c.want...)[0], api.OK)
	}
	ends := []int{math.MinInt, math.MinInt + 1, -bound - 1, -1, 0, 1, api.MaxMoney + 1, bound, bound + 1, math.MaxInt}
	for _, first := range ends {
		for _, last := range ends {
			sumsTo(t, lines(first, 3, 4, 5, last), api.Row{Open: first, Int: 3, Back: 4, Pay: 5, Close: last}, api.OK)
			sumsTo(t, lines(first, 3, 4, 5, last, last, 1, 1, 1, first, 0, 0, 0, 0, last), api.Row{Open: first, Int: 4, Back: 5, Pay: 6, Close: last}, api.OK)
			sumsTo(t, lines(first, 3, 4, -5, last), api.Row{}, api.ErrArg)
			sumsTo(t, lines(first, 3, bound+1, 5, last), api.Row{}, api.ErrOver)
		}
	}
	sumsTo(t, slices.Repeat(lines(4, 1, 2, 4, 3), 100000), api.Row{Open: 4, Int: 100000, Back: 200000, Pay: 400000, Close: 3}, api.OK)
}

// fields are a row's three numbers that are added up.
func fields(row *api.Row) []*int { return []*int{&row.Int, &row.Back, &row.Pay} }

// TestBelowNothing is of P21.2: a number below 0 is refused wherever it stands, ahead of sums that are too great.
func TestBelowNothing(t *testing.T) {
	for _, n := range []int{1, 2, 3, 7, 1200} {
		for _, place := range []int{0, n / 2, n - 1} {
			for field := range 3 {
				for _, wrong := range []int{-1, -2, -bound, -bound - 1, math.MinInt + 1, math.MinInt} {
					rows := slices.Repeat(lines(100, 1, 9, 10, 91), n)
					*fields(&rows[place])[field] = wrong
					sumsTo(t, rows, api.Row{}, api.ErrArg)
					besideGreat(t, rows, place)
				}
			}
		}
	}
}

// besideGreat holds Sums of rows that are refused against the same code where sums are too great ahead of the wrong one, in it and behind it.
func besideGreat(t *testing.T, rows []api.Row, wrong int) {
	t.Helper()
	for _, place := range []int{0, wrong, len(rows) - 1} {
		for field := range 3 {
			great := slices.Clone(rows)
			if number := fields(&great[place])[field]; *number >= 0 {
				*number = math.MaxInt
			}
			sumsTo(t, great, api.Row{}, api.ErrArg)
		}
	}
}

// TestTooGreat is of P21.2: each sum by itself, at 2^62 and above it, by one row and by many.
func TestTooGreat(t *testing.T) {
	for _, c := range []struct {
		numbers []int
		code    api.Errno
	}{
		{[]int{bound}, api.OK},
		{[]int{bound + 1}, api.ErrOver},
		{[]int{bound - 1, 1}, api.OK},
		{[]int{bound, 0, 0}, api.OK},
		{[]int{0, 0, bound}, api.OK},
		{[]int{bound, 1}, api.ErrOver},
		{[]int{1, bound}, api.ErrOver},
		{[]int{bound, 0, 1, 0}, api.ErrOver},
		{[]int{bound / 2, bound / 2}, api.OK},
		{[]int{bound / 2, bound/2 + 1}, api.ErrOver},
		{[]int{bound / 4, bound / 4, bound / 4, bound / 4}, api.OK},
		{[]int{bound / 4, bound / 4, 1, bound / 4, bound / 4}, api.ErrOver},
		{[]int{math.MaxInt}, api.ErrOver},
		{[]int{math.MaxInt, math.MaxInt}, api.ErrOver},
		{[]int{math.MaxInt, math.MaxInt, 2}, api.ErrOver},
		{[]int{math.MaxInt, math.MaxInt, math.MaxInt}, api.ErrOver},
		{[]int{math.MaxInt, math.MaxInt, math.MaxInt, math.MaxInt}, api.ErrOver},
		{[]int{1, math.MaxInt}, api.ErrOver},
		{[]int{bound, bound}, api.ErrOver},
		{slices.Repeat([]int{bound}, 3), api.ErrOver},
		{slices.Repeat([]int{bound}, 4), api.ErrOver},
		{slices.Repeat([]int{bound}, 1200), api.ErrOver},
		{slices.Repeat([]int{bound >> 10}, 1024), api.OK},
		{slices.Repeat([]int{bound >> 10}, 1025), api.ErrOver},
		{slices.Repeat([]int{1 << 44}, 1<<18+1), api.ErrOver},
	} {
		for field := range 3 {
			sumsAlone(t, c.numbers, field, c.code)
		}
		rows := make([]api.Row, len(c.numbers))
		for i, n := range c.numbers {
			rows[i] = api.Row{Open: 3, Int: n, Back: n, Pay: n, Close: 4}
		}
		if got, e := Sums(rows); e != c.code || e == api.OK && got != (api.Row{Open: 3, Int: bound, Back: bound, Pay: bound, Close: 4}) {
			t.Error(len(rows), got, e)
		}
	}
}

// sumsAlone holds Sums of rows with one field's numbers, and little in the others, against a code; where there is none, they are 2^62.
func sumsAlone(t *testing.T, numbers []int, field int, code api.Errno) {
	t.Helper()
	rows := slices.Repeat(lines(10, 1, 1, 1, 9), len(numbers))
	want := api.Row{Open: 10, Int: len(rows), Back: len(rows), Pay: len(rows), Close: 9}
	*fields(&want)[field] = bound
	for i, n := range numbers {
		*fields(&rows[i])[field] = n
	}
	if code != api.OK {
		want = api.Row{}
	}
	sumsTo(t, rows, want, code)
}

// TestSumsByChance is of P21.2: rows by chance, small and great, with the code that the words tell.
func TestSumsByChance(t *testing.T) {
	r := rand.New(rand.NewSource(214))
	met := map[api.Errno]int{}
	for range 50000 {
		rows := make([]api.Row, r.Intn(8))
		for i := range rows {
			rows[i] = api.Row{Open: int(r.Uint64()), Int: r.Int() >> r.Intn(12), Back: r.Int() >> r.Intn(12), Pay: r.Int() >> r.Intn(12), Close: int(r.Uint64())}
			if r.Intn(30) == 0 {
				*fields(&rows[i])[r.Intn(3)] = -1 - r.Int()>>r.Intn(64)
			}
		}
		want, code := summed(rows)
		sumsTo(t, rows, want, code)
		met[code]++
	}
	if met[api.OK] < 1000 || met[api.ErrArg] < 1000 || met[api.ErrOver] < 1000 {
		t.Error(met)
	}
}
