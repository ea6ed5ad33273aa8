package civil

const (
	firstYear = 1
	lastYear  = 9999
	february  = 2

	week      = 7
	year      = 365
	fourYears = 4*year + 1
	// A century ends with a year that 100 divides: no leap year, but in each fourth century.
	century       = 25*fourYears - 1
	fourCenturies = 4*century + 1
)

// lengths are those of the months of a year that is no leap year.
var lengths = [12]int{31, 28, 31, 30, 31, 30, 31, 31, 30, 31, 30, 31}

// aheadOfYear is how many days there are from the first one up to the end of the year ahead.
func aheadOfYear(y int) int {
	gone := y - firstYear
	return gone*year + gone/4 - gone/100 + gone/400
}

// aheadOfMonth is how many days of its year are ahead of a month.
func aheadOfMonth(y, m int) int {
	days := 0
	for before := 1; before < m; before++ {
		days += Length(y, before)
	}
	return days
}

// yearOf is the year of a day's number, and how many days of that year are gone by then.
func yearOf(n int) (y, gone int) {
	gone = n - 1
	y = firstYear + gone/fourCenturies*400
	gone %= fourCenturies
	// The day by which four centuries are longer than four times one is their last: it belongs to the fourth of them. So it is with four years.
	centuries := min(gone/century, 3)
	gone -= centuries * century
	y += centuries*100 + gone/fourYears*4
	gone %= fourYears
	years := min(gone/year, 3)
	return y + years, gone - years*year
}

// monthOf is the month that has the day by which so many days of the year are gone, and how many of that month's are.
func monthOf(y, gone int) (m, left int) {
	m, left = 1, gone
	for left >= Length(y, m) {
		left -= Length(y, m)
		m++
	}
	return m, left
}
