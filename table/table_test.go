package table

import (
	"math/rand"
	"slices"
	"testing"

	"demurrage/api"
	"demurrage/level"
	"demurrage/plain"
)

const bound = 1 << 62

// order is what a table is ordered by, of whichever kind.
type order struct {
	money, rate int
	parts       []api.Ratio
}

// chapter is what chapters 19 and 20 tell of an order, by the kind's number.
func (o order) chapter(kind int) ([]api.Row, api.Errno) {
	calls := []func(int, int, []api.Ratio) ([]api.Row, api.Errno){plain.Bullet, plain.Equal, level.Table}
	return calls[kind](o.money, o.rate, o.parts)
}

// gets holds Of against what it should tell.
func (o order) gets(t *testing.T, kind int, want []api.Row, code api.Errno) {
	t.Helper()
	handed := slices.Clone(o.parts)
	got, e := Of(kind, o.money, o.rate, handed)
	if e != code || !slices.Equal(got, want) {
		t.Fatalf("Of(%d, %d, %d, %d parts %v..) = %v, %d, not %v, %d", kind, o.money, o.rate, len(handed), handed[:min(9, len(handed))], got, e, want, code)
	}
	if !slices.Equal(handed, o.parts) {
		t.Fatalf("Of(%d, %d, %d, %v) left them as %v", kind, o.money, o.rate, o.parts, handed)
	}
}

// followed holds Of of each kind against its chapter, and the table's sums against P21.3; it tells the codes.
func (o order) followed(t *testing.T) [3]api.Errno {
	t.Helper()
	var codes [3]api.Errno
	for kind := range codes {
		want, code := o.chapter(kind)
		o.gets(t, kind, want, code)
		if code == api.OK {
			o.settled(t, want)
		}
		codes[kind] = code
	}
	return codes
}

// share is a part of a year.
func share(n, d int) api.Ratio { return api.Ratio{N: n, D: d} }

// alike are so many parts that are the same.
func alike(n int, part api.Ratio) []api.Ratio { return slices.Repeat([]api.Ratio{part}, n) }

// mixed are so many parts by chance, some of them 0, or years long.
func mixed(r *rand.Rand, n int) []api.Ratio {
	all := []api.Ratio{share(1, 4), share(1, 4), share(1, 12), share(1, 2), share(91, 365), share(7, 30), share(1, 1), share(0, 1), share(30, 1), share(731, 133590)}
	parts := make([]api.Ratio, n)
	for i := range parts {
		parts[i] = all[r.Intn(len(all))]
	}
	return parts
}

// lines are rows by five numbers each: Open, Int, Back, Pay, Close.
func lines(numbers ...int) []api.Row {
	var rows []api.Row
	for n := range slices.Chunk(numbers, 5) {
		rows = append(rows, api.Row{Open: n[0], Int: n[1], Back: n[2], Pay: n[3], Close: n[4]})
	}
	return rows
}

// TestGiven holds the numbers of these tests against the given ones.
func TestGiven(t *testing.T) {
	if api.MaxNum != bound || api.TBullet != 0 || api.TEqual != 1 || api.TLevel != 2 {
		t.Error(api.MaxNum, api.TBullet, api.TEqual, api.TLevel)
	}
}

// TestReckoned is of P21.1: tables of each kind that were reckoned by hand.
func TestReckoned(t *testing.T) {
	halves := order{1000, 1000, alike(2, share(1, 2))}
	halves.gets(t, 0, lines(1000, 50, 0, 50, 1000, 1000, 50, 1000, 1050, 0), api.OK)
	halves.gets(t, 1, lines(1000, 50, 500, 550, 500, 500, 25, 500, 525, 0), api.OK)
	halves.gets(t, 2, lines(1000, 50, 488, 538, 512, 512, 26, 512, 538, 0), api.OK)

	free := order{100, 0, alike(3, share(1, 1))}
	free.gets(t, 0, lines(100, 0, 0, 0, 100, 100, 0, 0, 0, 100, 100, 0, 100, 100, 0), api.OK)
	free.gets(t, 1, lines(100, 0, 33, 33, 67, 67, 0, 33, 33, 34, 34, 0, 34, 34, 0), api.OK)
	free.gets(t, 2, lines(100, 0, 34, 34, 66, 66, 0, 34, 34, 32, 32, 0, 32, 32, 0), api.OK)

	years := order{300, 1000, alike(3, share(1, 1))}
	years.gets(t, 0, lines(300, 30, 0, 30, 300, 300, 30, 0, 30, 300, 300, 30, 300, 330, 0), api.OK)
	years.gets(t, 1, lines(300, 30, 100, 130, 200, 200, 20, 100, 120, 100, 100, 10, 100, 110, 0), api.OK)
	years.gets(t, 2, lines(300, 30, 91, 121, 209, 209, 21, 100, 121, 109, 109, 11, 109, 120, 0), api.OK)

	for kind := range 3 {
		order{1000, 500, alike(1, share(1, 4))}.gets(t, kind, lines(1000, 12, 1000, 1012, 0), api.OK)
		order{0, 500, alike(2, share(1, 4))}.gets(t, kind, make([]api.Row, 2), api.OK)
	}
}

// TestFollowed is of P21.1: tables of ordinary amounts and rates, of one part up to many.
func TestFollowed(t *testing.T) {
	for _, money := range []int{0, 1, 2, 3, 99, 1000, 123456, 1000000000, api.MaxMoney - 1, api.MaxMoney} {
		for _, rate := range []int{0, 1, 500, 10000, api.MaxRate, api.MaxRate + 1} {
			for _, n := range []int{1, 2, 3, 12, 360} {
				order{money, rate, alike(n, share(1, 4))}.followed(t)
				order{money, rate, alike(n, share(0, 1))}.followed(t)
				order{money, rate, mixed(rand.New(rand.NewSource(210)), n)}.followed(t)
			}
		}
	}
}

// TestMostRows is of P21.1: tables of 1200 parts.
func TestMostRows(t *testing.T) {
	for _, money := range []int{0, 1, 1199, 1200, 1201, 10000000, api.MaxMoney} {
		for _, parts := range [][]api.Ratio{alike(1200, share(1, 12)), alike(1200, share(0, 1)), mixed(rand.New(rand.NewSource(211)), 1200)} {
			if codes := (order{money, 450, parts}).followed(t); codes != [3]api.Errno{} {
				t.Error(money, codes)
			}
		}
	}
}

// TestByChance is of P21.1 and P21.3: tables by chance.
func TestByChance(t *testing.T) {
	r := rand.New(rand.NewSource(212))
	for range 10000 {
		o := order{r.Intn(1 << r.Intn(50)), r.Intn(1 << r.Intn(20)), mixed(r, 1+r.Intn(1+r.Intn(40)))}
		o.money = min(o.money, api.MaxMoney)
		o.followed(t)
	}
}
