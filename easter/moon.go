package easter

import "demurrage/civil"

const (
	march  = 3
	week   = 7
	sunday = 6

	// month is the longer one of the moon's two.
	month = 30
	// spring is the first day of March that a paschal full moon may be on.
	spring = 21
	// cycle is how many years there are till full moons come back on the same days.
	cycle   = 19
	century = 100
)

// fullMoon is the day of March of a year's paschal full moon, where those of April are counted on from 31. The year is from 1 on.
func fullMoon(y int) int {
	var g, c, x, z, e, n int
	// These are the chapter's letters. What is divided by / is above 0, where Go rounds down.
	steps := [...]func(){
		func() { g = y%cycle + 1 },
		func() { c = y/century + 1 },
		func() { x = 3*c/4 - 12 },
		func() { z = (8*c+5)/25 - 5 },
		func() { e = remainder(11*g+20+z-x, month) },
		func() {
			if e == 25 && g > 11 || e == 24 {
				e++
			}
		},
		func() { n = 44 - e },
		func() {
			if n < spring {
				n += month
			}
		},
	}
	for _, step := range steps {
		step()
	}
	return n
}

// remainder is from 0 on; Go's is below 0 of a number below 0, as some years from 9006 on have it.
func remainder(a, by int) int { return (a%by + by) % by }

// sundayBehind is the first Sunday behind a day: of a Sunday, the next one.
func sundayBehind(n int) int {
	return n + week - remainder(civil.Weekday(n)-sunday, week)
}
