package count

import (
	"demurrage/actual"
	"demurrage/api"
	"demurrage/icma"
	"demurrage/thirty"
)

// teller tells a year's part of two days, and what it is told beside.
type teller func(a, b int, s api.Side) (api.Ratio, api.Errno)

// way is a way to count: its name, and what tells by it.
type way struct {
	name string
	part teller
}

// ways are all of them, each at the place of its number.
func ways() []way {
	return []way{
		api.CUS:   {name: "30/360", part: us},
		api.CE:    {name: "30e/360", part: alone(thirty.E)},
		api.CISDA: {name: "30e/360isda", part: isda},
		api.CA360: {name: "act/360", part: alone(actual.By360)},
		api.CA365: {name: "act/365f", part: alone(actual.By365)},
		api.CAA:   {name: "act/act", part: alone(actual.ByYears)},
		api.CICMA: {name: "act/acticma", part: periods},
	}
}

// find is the way of a number, and whether there is one.
func find(kind int) (w way, ok bool) {
	all := ways()
	if kind < 0 || kind >= len(all) {
		return way{}, false
	}
	return all[kind], true
}

// alone tells by two days alone: what stands beside can't turn it.
func alone(part func(a, b int) (api.Ratio, api.Errno)) teller {
	return func(a, b int, _ api.Side) (api.Ratio, api.Errno) { return part(a, b) }
}

// us is told beside whether days at a month's end stay there.
func us(a, b int, s api.Side) (api.Ratio, api.Errno) { return thirty.US(a, b, s.Eom) }

// isda is told beside the last day of all.
func isda(a, b int, s api.Side) (api.Ratio, api.Errno) { return thirty.Isda(a, b, s.End) }

// periods is told beside where these begin and end, and how many a year has.
func periods(a, b int, s api.Side) (api.Ratio, api.Errno) { return icma.Part(a, b, s.Refs, s.Freq) }
