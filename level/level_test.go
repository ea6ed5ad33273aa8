package level

import (
	"math"
	"math/big"
	"slices"
	"testing"

	"demurrage/accrue"
	"demurrage/api"
)

const (
	greatest = 1000000000000000
	most     = 1 << 62
	mostRows = 1200
)

// lent is what all three calls are asked of.
type lent struct {
	money, rate int
	parts       []api.Ratio
}

// yearly, quarterly and at are some that tests ask of: so many parts of a year each, of a quarter each, and parts one by one.
func yearly(money, rate, n int) lent { return lent{money, rate, repeated(api.Ratio{N: 1, D: 1}, n)} }

func quarterly(money, rate, n int) lent { return lent{money, rate, repeated(api.Ratio{N: 1, D: 4}, n)} }

func at(money, rate int, parts ...api.Ratio) lent { return lent{money, rate, parts} }

// repeated is the same part, so many times.
func repeated(part api.Ratio, n int) []api.Ratio { return slices.Repeat([]api.Ratio{part}, n) }

// few is what was lent with no more than its first parts, for a line that can be read.
func (l lent) few() lent { return lent{l.money, l.rate, l.parts[:min(len(l.parts), 12)]} }

// code is P20.2, word by word, for a payment of 0 or more.
func (l lent) code() api.Errno {
	if len(l.parts) == 0 || len(l.parts) > mostRows {
		return api.ErrArg
	}
	if l.money < 0 || l.money > greatest {
		return api.ErrBound
	}
	all, e := accrue.All(l.money, l.rate, l.parts)
	if e != api.OK {
		return e
	}
	sum := new(big.Int).Add(big.NewInt(int64(l.money)), big.NewInt(int64(slices.Max(all))))
	if sum.Cmp(big.NewInt(most)) > 0 {
		return api.ErrOver
	}
	return api.OK
}

// with is the table with a payment, row by row as the words tell it, by chapter 18's Of.
func (l lent) with(t *testing.T, pay int) []api.Row {
	t.Helper()
	var rows []api.Row
	open := l.money
	for i, part := range l.parts {
		row := api.Row{Open: open}
		var e api.Errno
		if row.Int, e = accrue.Of(open, l.rate, part); e != api.OK {
			t.Fatalf("%+v: %d at %d", l.few(), e, i)
		}
		switch {
		case i == len(l.parts)-1 || pay-row.Int > open:
			row.Back = open
		case pay > row.Int:
			row.Back = pay - row.Int
		}
		row.Pay, row.Close = row.Int+row.Back, open-row.Back
		rows, open = append(rows, row), row.Close
	}
	return rows
}

// endsWith: does the table with a payment end, as the words say it?
func (l lent) endsWith(t *testing.T, pay int) bool {
	t.Helper()
	rows := l.with(t, pay)
	return rows[len(rows)-1].Pay <= pay
}

// asked holds Ends against what it should answer.
func (l lent) asked(t *testing.T, pay int, want bool, code api.Errno) {
	t.Helper()
	parts := slices.Clone(l.parts)
	if got, e := Ends(l.money, l.rate, parts, pay); got != want || e != code {
		t.Fatalf("Ends(%+v, %d) = %t, %d, not %t, %d", l.few(), pay, got, e, want, code)
	}
	l.untouched(t, parts)
}

// told holds Least and Table against what they should answer.
func (l lent) told(t *testing.T, least int, rows []api.Row, code api.Errno) {
	t.Helper()
	parts := slices.Clone(l.parts)
	if got, e := Least(l.money, l.rate, parts); got != least || e != code {
		t.Fatalf("Least(%+v) = %d, %d, not %d, %d", l.few(), got, e, least, code)
	}
	if got, e := Table(l.money, l.rate, parts); !slices.Equal(got, rows) || e != code {
		t.Fatalf("Table(%+v) = %v, %d, not %v, %d", l.few(), got, e, rows, code)
	}
	l.untouched(t, parts)
}

// untouched holds the parts that a call was handed against what they were.
func (l lent) untouched(t *testing.T, parts []api.Ratio) {
	t.Helper()
	if !slices.Equal(parts, l.parts) {
		t.Fatalf("%+v is left as %v", l.few(), parts)
	}
}

// refused holds all three calls against a code, with nothing beside it.
func (l lent) refused(t *testing.T, code api.Errno) {
	t.Helper()
	for _, pay := range []int{0, 1, 1000, most, math.MaxInt} {
		l.asked(t, pay, false, code)
	}
	l.told(t, 0, nil, code)
}

// held holds all three calls against the words, and the table against P20.3.
func (l lent) held(t *testing.T) {
	t.Helper()
	if code := l.code(); code != api.OK {
		l.refused(t, code)
		return
	}
	least, _ := Least(l.money, l.rate, l.parts)
	// With this it ends, and with one less it doesn't: as with more it ends, too, there is none that is less.
	if least < 0 || !l.endsWith(t, least) || least > 0 && l.endsWith(t, least-1) {
		t.Fatalf("Least(%+v) = %d", l.few(), least)
	}
	rows := l.with(t, least)
	l.told(t, least, rows, api.OK)
	l.follows(t, least, rows)
	for _, pay := range l.payments(t, least) {
		l.asked(t, pay, l.endsWith(t, pay), api.OK)
	}
}

// payments are some at which Ends may turn.
func (l lent) payments(t *testing.T, least int) []int {
	all, e := accrue.All(l.money, l.rate, l.parts)
	if e != api.OK {
		t.Fatal(e)
	}
	high := l.money + slices.Max(all)
	pays := []int{0, 1, least - 1, least, least + 1, least / 2, least * 2, slices.Min(all) - 1, all[0] - 1, all[0], high - 1, high, high + 1, most, math.MaxInt}
	return slices.DeleteFunc(pays, func(pay int) bool { return pay < 0 })
}

// follows holds the table with the least payment against P20.3.
func (l lent) follows(t *testing.T, least int, rows []api.Row) {
	t.Helper()
	back, open := 0, l.money
	for i, row := range rows {
		if row.Open != open || row.Pay != row.Int+row.Back || row.Close != row.Open-row.Back || row.Close < 0 || row.Close > l.money {
			t.Fatalf("%+v: %+v at %d, where %d is open", l.few(), row, i, open)
		}
		less := row.Open < least-row.Int && row.Back == row.Open
		more := row.Int > least && row.Back == 0
		if i < len(rows)-1 && row.Pay != least && !less && !more {
			t.Fatalf("%+v: %+v at %d, of %d", l.few(), row, i, least)
		}
		back, open = back+row.Back, row.Close
	}
	if len(rows) != len(l.parts) || back != l.money || open != 0 || rows[len(rows)-1].Pay > least {
		t.Fatalf("%+v, with %d: %v", l.few(), least, rows)
	}
}

// laid are rows by their numbers: Open, Int, Back, Pay, Close.
func laid(all ...[5]int) []api.Row {
	var rows []api.Row
	for _, n := range all {
		rows = append(rows, api.Row{Open: n[0], Int: n[1], Back: n[2], Pay: n[3], Close: n[4]})
	}
	return rows
}

// TestConstants holds the bounds of these tests against the given ones.
func TestConstants(t *testing.T) {
	if api.MaxMoney != greatest || api.MaxNum != most || api.MaxRows != mostRows {
		t.Error(api.MaxMoney, api.MaxNum, api.MaxRows)
	}
}

// TestExample is the chapter's one.
func TestExample(t *testing.T) {
	l := yearly(300, 1000, 3)
	l.told(t, 121, laid([5]int{300, 30, 91, 121, 209}, [5]int{209, 21, 100, 121, 109}, [5]int{109, 11, 109, 120, 0}), api.OK)
	for pay := range 500 {
		l.asked(t, pay, pay >= 121, api.OK)
	}
}
