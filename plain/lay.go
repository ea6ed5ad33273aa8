package plain

import (
	"demurrage/accrue"
	"demurrage/api"
)

// kind is a kind of tables: how much is paid back in each row but the last one.
type kind struct {
	back func(money, rows int) int
}

// bullet pays nothing back but at the end.
func bullet() kind { return kind{back: func(int, int) int { return 0 }} }

// equal pays as much back each time; what doesn't go into so many parts stays for the end.
func equal() kind { return kind{back: func(money, rows int) int { return money / rows }} }

// lay makes a table, row by row.
func lay(k kind, money, rate int, parts []api.Ratio) ([]api.Row, api.Errno) {
	if len(parts) == 0 || len(parts) > api.MaxRows {
		return nil, api.ErrArg
	}
	if money < 0 || money > api.MaxMoney {
		return nil, api.ErrBound
	}
	next := layer(money, rate, k.back(money, len(parts)))
	last := len(parts) - 1
	rows := make([]api.Row, 0, len(parts))
	for i, part := range parts {
		row, e := next(part, i == last)
		if e != api.OK {
			return nil, e
		}
		rows = append(rows, row)
	}
	// The other rows' payments have no such bound: the document asks for it of the last one alone.
	if rows[last].Pay > api.MaxNum {
		return nil, api.ErrOver
	}
	return rows, api.OK
}

// layer is what lays the next row each time it is called. It keeps what is open, which only the last row pays back whole.
func layer(open, rate, back int) func(part api.Ratio, last bool) (api.Row, api.Errno) {
	return func(part api.Ratio, last bool) (api.Row, api.Errno) {
		interest, e := accrue.Of(open, rate, part)
		if e != api.OK {
			return api.Row{}, e
		}
		row := api.Row{Open: open, Int: interest, Back: back}
		if last {
			row.Back = open
		}
		row.Pay = row.Int + row.Back
		row.Close = row.Open - row.Back
		open = row.Close
		return row, api.OK
	}
}
