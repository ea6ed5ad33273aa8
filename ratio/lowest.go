package ratio

import (
	"demurrage/api"
	"demurrage/wide"
)

// lowest divides two numbers, of which at least one is above 0, by the greatest that divides both.
func lowest(n, d uint64) (uint64, uint64) {
	both := Gcd(n, d)
	return n / both, d / both
}

// fit refuses numbers that a fraction may not have; they are in lowest terms already.
func fit(n, d api.Wide) (api.Ratio, api.Errno) {
	most := wide.Of(api.MaxNum)
	if wide.Cmp(n, most) > 0 || wide.Cmp(d, most) > 0 {
		return api.Ratio{}, api.ErrOver
	}
	return api.Ratio{N: int(n.Lo), D: int(d.Lo)}, api.OK
}
