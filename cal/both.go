package cal

import (
	"slices"
)

// either is what is off in the one week or in the other one.
func either(a, b [7]bool) [7]bool {
	for i, off := range b {
		a[i] = a[i] || off
	}
	return a
}

// together are the days of all lists, rising, each once.
func together(lists ...[]int) []int {
	// The days lie in memory of their own then, so that sorting them turns no list that was handed in.
	days := slices.Concat(lists...)
	slices.Sort(days)
	return slices.Compact(days)
}
