package accrue

import "demurrage/api"

// each is what told tells of each item, or the first code that it tells and nothing.
func each[T, U any](items []T, told func(T) (U, api.Errno)) ([]U, api.Errno) {
	all := make([]U, 0, len(items))
	for _, item := range items {
		one, e := told(item)
		if e != api.OK {
			return nil, e
		}
		all = append(all, one)
	}
	return all, api.OK
}
