package round

import (
	"cmp"

	"demurrage/api"
	"demurrage/wide"
)

// above is how far the next whole number lies above the one that is rounded down: 0 or 1.
func above(often api.Wide, left, d uint64) uint64 {
	// What is left is below d, so d less it can't go round, as twice what is left could.
	switch cmp.Compare(left, d-left) {
	case 0:
		if often.Lo%2 == 0 {
			return 0
		}
		// A half above an odd number goes where all that is more than a half goes.
		fallthrough
	case 1:
		return 1
	default:
		return 0
	}
}

// fit refuses what is too great to be told.
func fit(whole api.Wide) (int, api.Errno) {
	if wide.Cmp(whole, wide.Of(api.MaxNum)) > 0 {
		return 0, api.ErrOver
	}
	return int(whole.Lo), api.OK
}
