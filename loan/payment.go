package loan

import "demurrage/api"

// payment is what a payment does to a loan, and what is told of it.
type payment struct {
	turned
	told api.Resp
}

// pot takes what it may of a payment, and hands on what is left.
type pot func(left int) int

// spend sends money down a row of pots: interest that is owed goes ahead of what is open.
func (p *payment) spend(money int) {
	for _, fill := range []pot{into(&p.Due, &p.Int, &p.told.A), into(&p.Open, &p.Back, &p.told.B)} {
		money = fill(money)
	}
	p.told.C = money
}

// into is the pot of what is owed: as much as a payment has for it is owed no more, but paid, and told.
func into(owed, paid, told *int) pot {
	return func(left int) int {
		*told = min(left, *owed)
		*owed -= *told
		*paid += *told
		return left - *told
	}
}
