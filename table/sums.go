package table

import (
	"demurrage/api"
)

// addable: is nothing below 0 that is added up? All rows are asked ahead of the first sum, as that is refused ahead of sums that are too great.
func addable(l []api.Row) bool {
	for _, row := range l {
		if row.Int < 0 || row.Back < 0 || row.Pay < 0 {
			return false
		}
	}
	return true
}

// fits: do sums with a row stay up to 2^62? What is left up to there is asked, since a sum itself could go round.
func fits(sums, row api.Row) bool {
	return row.Int <= api.MaxNum-sums.Int && row.Back <= api.MaxNum-sums.Back && row.Pay <= api.MaxNum-sums.Pay
}
