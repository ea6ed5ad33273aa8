package roll

import (
	"math"
	"math/rand"
	"slices"
	"strings"
	"sync"
	"testing"
	"time"

	"demurrage/api"
	"demurrage/cal"
)

const (
	first = 1
	end   = 3652059
)

// day0 is the day ahead of the first one, as the library's calendar knows it, which goes by the Gregorian rule for all years too.
var day0 = time.Date(1, time.January, 0, 0, 0, 0, 0, time.UTC).Unix() / 86400

// at is a day of the library's calendar by its number.
func at(n int) time.Time { return time.Unix((int64(n)+day0)*86400, 0).UTC() }

// on is the number of a day by its year, month and day of the month.
func on(y, m, d int) int {
	return int(time.Date(y, time.Month(m), d, 0, 0, 0, 0, time.UTC).Unix()/86400 - day0)
}

// texts are the chapter's names, by the numbers of their ways.
func texts() []string {
	return []string{0: "none", 1: "following", 2: "modfollowing", 3: "preceding", 4: "modpreceding"}
}

// noKinds are numbers of no way, near and far off.
var noKinds = []int{-1, 5, 6, 7, 8, 9, 10, -2, -3, -4, -5, -6, 13, 100, 255, 256, 257, -256, 1 << 16, 1 << 31, 1 << 32, 1<<32 + 1, 1<<32 + 4, -1 << 32, -1<<32 + 3, 1 << 62, -1 << 62, 1<<63 - 5, math.MaxInt, math.MaxInt - 1, math.MinInt, math.MinInt + 1, math.MinInt + 2, math.MinInt + 4}

// noDays are numbers that are no day's, near and far off.
var noDays = []int{0, -1, -2, -6, -7, -30, -59, -60, -61, -62, -365, 3652060, 3652061, 3652066, 3652090, 3652118, 3652119, 3652120, 3652121, 7304118, -3652059, math.MinInt, math.MinInt + 1, math.MinInt + 59, math.MinInt + 60, math.MinInt + 61,
	math.MaxInt, math.MaxInt - 1, math.MaxInt - 59, math.MaxInt - 60, math.MaxInt - 61, math.MinInt32, math.MaxInt32, 1 << 32, 1<<32 + 1, 1<<32 + 738945, -1 << 32, -1<<32 + 738945, 1 << 62, 1<<62 + 738945, -1 << 62}

// weekend is what is off of Saturdays and Sundays.
var weekend = [7]bool{5: true, 6: true}

// week is what is off by bits, Monday's the lowest.
func week(bits int) (off [7]bool) {
	for i := range off {
		off[i] = bits>>i&1 == 1
	}
	return off
}

// someRules are rules of each kind and each shift.
var someRules = []api.Rule{
	{Kind: api.RFixed, Month: 1, Day: 1, Shift: api.SNear, From: 1, To: 9999}, {Kind: api.RFixed, Month: 12, Day: 31, Shift: api.SNext, From: 1, To: 9999}, {Kind: api.RFixed, Month: 12, Day: 25, From: 1, To: 9999},
	{Kind: api.RFixed, Month: 12, Day: 26, Shift: api.SNext, From: 1, To: 9999}, {Kind: api.RFixed, Month: 2, Day: 29, From: 1, To: 9999}, {Kind: api.RFixed, Month: 5, Day: 1, From: 2010, To: 2023}, {Kind: api.RNth, Month: 11, Day: 3, K: 4, From: 1, To: 9999},
	{Kind: api.RNth, Month: 12, Day: 6, K: 5, Shift: api.SNear, From: 1, To: 9999}, {Kind: api.RLast, Month: 5, Day: 0, From: 1, To: 9999}, {Kind: api.RLast, Month: 12, Day: 6, Shift: api.SNext, From: 1, To: 9999}, {Kind: api.REaster, Off: -2, From: 1, To: 9999},
	{Kind: api.REaster, Off: 1, From: 1, To: 9999}, {Kind: api.REaster, Off: 250, Shift: api.SNext, From: 1, To: 9999},
}

// closed is a calendar of nothing but Days: all days from one to another one, so far as there are such.
func closed(from, to int) api.Cal {
	var c api.Cal
	for n := max(from, first); n <= min(to, end); n++ {
		c.Days = append(c.Days, n)
	}
	return c
}

// target is a calendar of weekends and of some holidays by rules.
func target() api.Cal { return api.Cal{Off: weekend, Rules: slices.Clone(someRules)} }

// someCals are calendars of weekends, of rules, of Days, and of all of these.
func someCals(around int) []api.Cal {
	many := closed(around-20, around+19)
	two := api.Cal{Off: week(0b1011011), Days: []int{}}
	two.Days = append(two.Days, closed(around-30, around-3).Days...)
	two.Days = append(two.Days, closed(around+4, around+33).Days...)
	full := target()
	full.Days = slices.Clone(many.Days)
	return []api.Cal{{}, {Off: weekend}, {Off: week(0b0111111)}, {Rules: slices.Clone(someRules)}, target(), many, two, full}
}

// anyCal is a calendar that may be, by chance, whose Days lie around a day, often one behind the other.
func anyCal(r *rand.Rand, around int) api.Cal {
	c := api.Cal{Off: week(r.Intn(127) & r.Intn(127))}
	for range r.Intn(4) {
		c.Rules = append(c.Rules, someRules[r.Intn(len(someRules))])
	}
	for range r.Intn(6) {
		from := around - 100 + r.Intn(200)
		c.Days = append(c.Days, closed(from, from+r.Intn(70)).Days...)
	}
	slices.Sort(c.Days)
	c.Days = slices.Compact(c.Days)
	return c
}

// someDay is a day by chance, of the bounds and those of our years more often.
func someDay(r *rand.Rand) int {
	switch r.Intn(4) {
	case 0:
		return first + r.Intn(150)
	case 1:
		return end - r.Intn(150)
	case 2:
		return first + r.Intn(end)
	}
	return on(2000, 1, 1) + r.Intn(15000)
}

// sought is P14.2's words, by a search one way: all 61 days are gone through, be they days or not.
func sought(c api.Cal, n, step int) (int, api.Errno) {
	if n < first || n > end {
		return 0, api.ErrDay
	}
	out := false
	for i := range 61 {
		m := n + step*i
		out = out || m < first || m > end
		if cal.Is(c, m) {
			return m, api.OK
		}
	}
	if out {
		return 0, api.ErrDay
	}
	return 0, api.ErrNone
}

// other: are two days in other months, as the library's calendar knows them?
func other(a, b int) bool { return at(a).Format("2006-01") != at(b).Format("2006-01") }

// wanted is P14.3's words.
func wanted(c api.Cal, n, kind int) (int, api.Errno) {
	next, ne := sought(c, n, 1)
	prev, pe := sought(c, n, -1)
	switch {
	case kind == 0 && (n < first || n > end):
		return 0, api.ErrDay
	case kind == 0:
		return n, api.OK
	case kind == 1, kind == 2 && (ne != api.OK || !other(n, next)), kind == 4 && pe == api.OK && other(n, prev):
		return next, ne
	case kind == 2, kind == 3, kind == 4:
		return prev, pe
	}
	return 0, api.ErrArg
}

// copied is a calendar in memory of its own.
func copied(c api.Cal) api.Cal {
	return api.Cal{Off: c.Off, Rules: slices.Clone(c.Rules), Days: slices.Clone(c.Days)}
}

// same: are two calendars the same?
func same(a, b api.Cal) bool {
	return a.Off == b.Off && slices.Equal(a.Rules, b.Rules) && slices.Equal(a.Days, b.Days)
}

// next holds Next against what it should be.
func next(t *testing.T, c api.Cal, n, want int, code api.Errno) {
	t.Helper()
	if got, e := Next(c, n); got != want || e != code {
		t.Errorf("Next of off %v, %d rules, %d days, of %d = %d, %d, not %d, %d", c.Off, len(c.Rules), len(c.Days), n, got, e, want, code)
	}
}

// prev holds Prev against what it should be.
func prev(t *testing.T, c api.Cal, n, want int, code api.Errno) {
	t.Helper()
	if got, e := Prev(c, n); got != want || e != code {
		t.Errorf("Prev of off %v, %d rules, %d days, of %d = %d, %d, not %d, %d", c.Off, len(c.Rules), len(c.Days), n, got, e, want, code)
	}
}

// to holds To against what it should be.
func to(t *testing.T, c api.Cal, n, kind, want int, code api.Errno) {
	t.Helper()
	if got, e := To(c, n, kind); got != want || e != code {
		t.Errorf("To of off %v, %d rules, %d days, of %d by %d = %d, %d, not %d, %d", c.Off, len(c.Rules), len(c.Days), n, kind, got, e, want, code)
	}
}

// held holds all calls of a day against the chapter's words.
func held(t *testing.T, c api.Cal, n int) {
	t.Helper()
	want, code := sought(c, n, 1)
	next(t, c, n, want, code)
	want, code = sought(c, n, -1)
	prev(t, c, n, want, code)
	for kind := -1; kind <= 5; kind++ {
		want, code = wanted(c, n, kind)
		to(t, c, n, kind, want, code)
	}
}

// TestConstants are those that the document tells.
func TestConstants(t *testing.T) {
	for i, kind := range []int{api.LNone, api.LNext, api.LModNext, api.LPrev, api.LModPrev} {
		if kind != i {
			t.Errorf("%s is %d", texts()[i], kind)
		}
	}
	if api.MaxRoll != 60 || api.MinDay != first || api.MaxDay != end {
		t.Error(api.MaxRoll, api.MinDay, api.MaxDay)
	}
}

// TestName is of P14.1: each way's name, and nothing of numbers of no way.
func TestName(t *testing.T) {
	for kind, name := range texts() {
		if got := Name(kind); got != name {
			t.Errorf("Name(%d) = %q", kind, got)
		}
	}
	for kind := -1000; kind <= 1000; kind++ {
		if got := Name(kind); (kind < 0 || kind > 4) && got != "" {
			t.Errorf("Name(%d) = %q", kind, got)
		}
	}
	for _, kind := range noKinds {
		if got := Name(kind); got != "" {
			t.Errorf("Name(%d) = %q", kind, got)
		}
	}
	for bit := 3; bit < 64; bit++ {
		for kind := range 5 {
			if far := kind + 1<<bit; Name(far) != "" {
				t.Errorf("Name(%d) = %q", far, Name(far))
			}
		}
	}
}

// TestKind is of P14.1: the way of each name, also of one that is made anew, and its name again.
func TestKind(t *testing.T) {
	for kind, name := range texts() {
		for _, text := range []string{name, string([]byte(name)), strings.ToLower(strings.ToUpper(name)), ("x" + name + "y")[1 : 1+len(name)], Name(kind)} {
			if got, e := Kind(text); got != kind || e != api.OK {
				t.Errorf("Kind(%q) = %d, %d", text, got, e)
			}
		}
	}
}

// noName holds that a text that is no name is refused, and passes names over.
func noName(t *testing.T, text string) {
	t.Helper()
	if slices.Contains(texts(), text) {
		return
	}
	if got, e := Kind(text); got != 0 || e != api.ErrForm {
		t.Errorf("Kind(%q) = %d, %d", text, got, e)
	}
}

// TestKindNone is of P14.1: texts that are no names, though many are near to one.
func TestKindNone(t *testing.T) {
	for _, text := range []string{
		"", " ", "0", "1", "4", "-1", "no", "non", "nones", "mod", "follow", "follows", "next", "prev", "previous", "precede", "modnone", "mod following", "mod-following", "mod_following", "modifiedfollowing", "modified following", "modfollow",
		"NONE", "None", "Following", "FOLLOWING", "ModFollowing", "MODFOLLOWING", "Preceding", "PRECEDING", "ModPreceding", "MODPRECEDING", "none\n", "none\x00", "\x00none", "none\xff", "\xff", "\xff\xfe", "\x80", "\x00", "\u2028", "é", "nоne",
		"none,following", "none following", "act/360", "weekends", "level", " none", "none ", "\tfollowing", "preceding\r", "ｎｏｎｅ", "no\u0301ne", strings.Repeat("none", 1000), strings.Repeat("\xff", 100000),
	} {
		if slices.Contains(texts(), text) {
			t.Fatal(text)
		}
		noName(t, text)
	}
	for _, name := range texts() {
		noName(t, strings.ToUpper(name))
		noName(t, name+name)
		noName(t, "mod"+name)
		noName(t, "modmod"+name)
		for i := range len(name) {
			noName(t, name[:i])
			noName(t, name[i+1:])
			noName(t, name[:i]+name[i+1:])
			noName(t, name[:i]+strings.ToUpper(name[i:i+1])+name[i+1:])
		}
		for b := range 256 {
			letter := string([]byte{byte(b)})
			for i := range len(name) + 1 {
				noName(t, name[:i]+letter+name[i:])
				if i < len(name) {
					noName(t, name[:i]+letter+name[i+1:])
				}
			}
		}
	}
}

// TestDayByDay is of P14.2, P14.3: each day of some years, of calendars of weekends, of rules and of Days.
func TestDayByDay(t *testing.T) {
	for _, around := range []int{on(2024, 8, 31), on(2021, 12, 31), on(2000, 3, 1), on(1, 6, 1), on(9999, 7, 1)} {
		for _, c := range someCals(around) {
			if !cal.May(c) {
				t.Fatalf("%+v", c)
			}
			for n := around - 190; n <= around+190; n++ {
				held(t, c, n)
			}
		}
	}
}

// TestByChance is of P14.2, P14.3: days around those by chance, of calendars by chance, days near the first and the last one among them.
func TestByChance(t *testing.T) {
	r := rand.New(rand.NewSource(141))
	met := map[api.Errno]int{}
	for range 600 {
		around := someDay(r)
		c := anyCal(r, around)
		if !cal.May(c) {
			t.Fatalf("%+v", c)
		}
		for range 30 {
			n := around - 130 + r.Intn(260)
			held(t, c, n)
			_, e := sought(c, n, 1)
			met[e]++
			_, e = sought(c, n, -1)
			met[e]++
		}
	}
	if met[api.OK] < 1000 || met[api.ErrDay] < 100 || met[api.ErrNone] < 100 {
		t.Error(met)
	}
}

// TestStays is of P14.2, P14.4: a day of business stays, by each way.
func TestStays(t *testing.T) {
	for _, c := range append(someCals(738945), api.Cal{Days: []int{2, 738944, 738946, end - 1}}) {
		for _, n := range []int{first, 738939, 738945, 738950, end, end - 1, 2} {
			if !cal.Is(c, n) {
				continue
			}
			next(t, c, n, n, api.OK)
			prev(t, c, n, n, api.OK)
			for kind := range 5 {
				to(t, c, n, kind, n, api.OK)
			}
		}
	}
}

// TestFar is of P14.2: a day of business that is just 60 days off is found, one that is 61 off isn't, either way.
func TestFar(t *testing.T) {
	for _, n := range []int{738945, 700000, 62, end - 61, on(2024, 1, 31), on(2023, 12, 31)} {
		for off := 1; off <= 70; off++ {
			// So many days are off, from n on; or up to n.
			late, early := closed(n, n+off-1), closed(n-off+1, n)
			if off <= 60 {
				next(t, late, n, n+off, api.OK)
				prev(t, early, n, n-off, api.OK)
				to(t, late, n, api.LNext, n+off, api.OK)
				to(t, early, n, api.LPrev, n-off, api.OK)
			} else if n+60 <= end && n-60 >= first {
				next(t, late, n, 0, api.ErrNone)
				prev(t, early, n, 0, api.ErrNone)
				to(t, late, n, api.LNext, 0, api.ErrNone)
				to(t, early, n, api.LPrev, 0, api.ErrNone)
			}
			next(t, early, n, n+1, api.OK)
			prev(t, late, n, n-1, api.OK)
		}
	}
	// Days off by their weekday count as well: of Wednesdays alone, the eighth one behind 2024-02-29 is 55 days off, the ninth 62.
	c := api.Cal{Off: week(0b1111011)}
	for i := range 8 {
		c.Days = append(c.Days, on(2024, 3, 6)+7*i)
	}
	next(t, c, on(2024, 2, 29), 0, api.ErrNone)
	next(t, c, on(2024, 3, 1), 0, api.ErrNone)
	next(t, c, on(2024, 3, 2), on(2024, 5, 1), api.OK)
	prev(t, c, on(2024, 4, 29), 0, api.ErrNone)
	prev(t, c, on(2024, 4, 28), on(2024, 2, 28), api.OK)
}

// TestFarByRules is of P14.2: 61 days off by rules alone, of which one may go.
func TestFarByRules(t *testing.T) {
	var c api.Cal
	for i := range 61 {
		d := at(on(2023, 5, 1) + i)
		c.Rules = append(c.Rules, api.Rule{Kind: api.RFixed, Month: int(d.Month()), Day: d.Day(), From: 1, To: 9999})
	}
	for _, y := range []int{1, 1999, 2023, 2024, 9999} {
		next(t, c, on(y, 5, 1), 0, api.ErrNone)
		next(t, c, on(y, 5, 2), on(y, 7, 1), api.OK)
		prev(t, c, on(y, 6, 30), 0, api.ErrNone)
		prev(t, c, on(y, 6, 29), on(y, 4, 30), api.OK)
		to(t, c, on(y, 5, 1), api.LModNext, 0, api.ErrNone)
		to(t, c, on(y, 5, 2), api.LModNext, on(y, 4, 30), api.OK)
		to(t, c, on(y, 6, 30), api.LModPrev, 0, api.ErrNone)
		to(t, c, on(y, 6, 29), api.LModPrev, on(y, 7, 1), api.OK)
	}
	c.Rules[60].From = 2024
	next(t, c, on(2023, 5, 1), on(2023, 6, 30), api.OK)
	next(t, c, on(2024, 5, 1), 0, api.ErrNone)
}

// TestLeaves is of P14.2: near the first and the last day, where the search leaves the days, and where there are just as many as it goes through.
func TestLeaves(t *testing.T) {
	early, late := closed(first, first+100), closed(end-100, end)
	for far := range 80 {
		code := api.ErrDay
		if far >= 60 {
			code = api.ErrNone
		}
		prev(t, early, first+far, 0, code)
		next(t, late, end-far, 0, code)
		to(t, early, first+far, api.LPrev, 0, code)
		to(t, late, end-far, api.LNext, 0, code)
		to(t, early, first+far, api.LModPrev, 0, code)
		to(t, late, end-far, api.LModNext, 0, code)
	}
	// The other way nothing is left.
	next(t, early, first+40, 0, api.ErrNone)
	next(t, early, first+41, first+101, api.OK)
	prev(t, late, end-40, 0, api.ErrNone)
	prev(t, late, end-41, end-101, api.OK)
	held(t, closed(first, first+60), first)
	held(t, closed(first, first+59), first)
	held(t, closed(end-60, end), end)
	held(t, closed(end-59, end), end)
}

// TestFindsAtBounds is of P14.2: a day of business just at the first or the last day, and one ahead of where the search would leave the days.
func TestFindsAtBounds(t *testing.T) {
	for in := range 20 {
		// The day of business is so many days from the first one, or from the last one.
		early, late := closed(first+in+1, first+in+100), closed(end-in-100, end-in-1)
		for off := range 61 {
			prev(t, early, first+in+off, first+in, api.OK)
			next(t, late, end-in-off, end-in, api.OK)
			to(t, early, first+in+off, api.LPrev, first+in, api.OK)
			to(t, late, end-in-off, api.LNext, end-in, api.OK)
		}
		prev(t, early, first+in+61, 0, api.ErrNone)
		next(t, late, end-in-61, 0, api.ErrNone)
	}
	for n := first; n < first+110; n++ {
		held(t, closed(first+1, first+100), n)
		held(t, closed(end-100, end-1), end+first-n)
	}
}

// TestBounds is of P14.2, P14.3: the first and the last day of all by weekdays; the first one is a Monday, the last one a Friday.
func TestBounds(t *testing.T) {
	monday, friday := api.Cal{Off: week(1)}, api.Cal{Off: week(1 << 4)}
	next(t, monday, first, first+1, api.OK)
	prev(t, monday, first, 0, api.ErrDay)
	next(t, friday, end, 0, api.ErrDay)
	prev(t, friday, end, end-1, api.OK)
	next(t, friday, first, first, api.OK)
	prev(t, monday, end, end, api.OK)
	for kind, want := range []int{first, first + 1, first + 1, 0, 0} {
		e := api.OK
		if want == 0 {
			e = api.ErrDay
		}
		to(t, monday, first, kind, want, e)
	}
	for kind, want := range []int{end, 0, 0, end - 1, end - 1} {
		e := api.OK
		if want == 0 {
			e = api.ErrDay
		}
		to(t, friday, end, kind, want, e)
	}
}

// TestNoDay is of P14.2, P14.3: ErrDay of what is no day, by each way; ErrArg of what is no way, also then.
func TestNoDay(t *testing.T) {
	for _, c := range append(someCals(738945), closed(first, first+500), closed(end-500, end)) {
		for _, n := range noDays {
			next(t, c, n, 0, api.ErrDay)
			prev(t, c, n, 0, api.ErrDay)
			for kind := range 5 {
				to(t, c, n, kind, 0, api.ErrDay)
			}
			for _, kind := range noKinds {
				to(t, c, n, kind, 0, api.ErrArg)
			}
		}
	}
}

// TestNoWay is of P14.3: ErrArg of numbers that are no way's, of days of business and of others.
func TestNoWay(t *testing.T) {
	for _, c := range append(someCals(738945), closed(738900, 739000)) {
		for _, n := range []int{first, 738940, 738945, 738946, 738950, on(2024, 8, 31), end} {
			for _, kind := range noKinds {
				to(t, c, n, kind, 0, api.ErrArg)
			}
			for bit := 3; bit < 64; bit++ {
				for kind := range 5 {
					to(t, c, n, kind+1<<bit, 0, api.ErrArg)
				}
			}
		}
	}
}

// TestNone is of P14.3: by none, it is the day itself, of business or not.
func TestNone(t *testing.T) {
	for _, c := range append(someCals(738945), closed(first, first+500), closed(end-500, end)) {
		for _, n := range []int{first, 2, 100, 738938, 738944, 738945, 738946, on(2024, 8, 31), end - 1, end} {
			to(t, c, n, api.LNone, n, api.OK)
		}
	}
}

// TestMonths is of P14.3: days within a month, and such of which one way leads into another month, or year, or both do.
func TestMonths(t *testing.T) {
	weeks := api.Cal{Off: weekend}
	for _, x := range []struct {
		c                         api.Cal
		n                         int
		next, modNext, prev, modP int
	}{
		// Saturday and Sunday within a month.
		{weeks, on(2024, 8, 17), on(2024, 8, 19), on(2024, 8, 19), on(2024, 8, 16), on(2024, 8, 16)},
		{weeks, on(2024, 8, 18), on(2024, 8, 19), on(2024, 8, 19), on(2024, 8, 16), on(2024, 8, 16)},
		// At a month's end, and at its beginning.
		{weeks, on(2024, 8, 31), on(2024, 9, 2), on(2024, 8, 30), on(2024, 8, 30), on(2024, 8, 30)},
		{weeks, on(2024, 9, 1), on(2024, 9, 2), on(2024, 9, 2), on(2024, 8, 30), on(2024, 9, 2)},
		{weeks, on(2024, 6, 29), on(2024, 7, 1), on(2024, 6, 28), on(2024, 6, 28), on(2024, 6, 28)},
		{weeks, on(2024, 6, 30), on(2024, 7, 1), on(2024, 6, 28), on(2024, 6, 28), on(2024, 6, 28)},
		// At a year's end, and at its beginning.
		{weeks, on(2022, 12, 31), on(2023, 1, 2), on(2022, 12, 30), on(2022, 12, 30), on(2022, 12, 30)},
		{weeks, on(2023, 1, 1), on(2023, 1, 2), on(2023, 1, 2), on(2022, 12, 30), on(2023, 1, 2)},
		{target(), on(2024, 1, 1), on(2024, 1, 2), on(2024, 1, 2), on(2023, 12, 29), on(2024, 1, 2)},
		// February of a leap year, and of another one.
		{closed(738945, 738945), on(2024, 2, 29), on(2024, 3, 1), on(2024, 2, 28), on(2024, 2, 28), on(2024, 2, 28)},
		{closed(on(2023, 2, 28), on(2023, 2, 28)), on(2023, 2, 28), on(2023, 3, 1), on(2023, 2, 27), on(2023, 2, 27), on(2023, 2, 27)},
		{closed(on(2024, 2, 28), on(2024, 2, 28)), on(2024, 2, 28), on(2024, 2, 29), on(2024, 2, 29), on(2024, 2, 27), on(2024, 2, 27)},
		// The whole month is off: the other way leads into another month as well, and there it ends.
		{closed(on(2023, 2, 1), on(2023, 2, 28)), on(2023, 2, 14), on(2023, 3, 1), on(2023, 1, 31), on(2023, 1, 31), on(2023, 3, 1)},
		{closed(on(2023, 12, 1), on(2023, 12, 31)), on(2023, 12, 31), on(2024, 1, 1), on(2023, 11, 30), on(2023, 11, 30), on(2024, 1, 1)},
		{closed(on(2024, 1, 1), on(2024, 1, 31)), on(2024, 1, 1), on(2024, 2, 1), on(2023, 12, 31), on(2023, 12, 31), on(2024, 2, 1)},
		// Two months are off, but for 60 days: the day found is two months on.
		{closed(on(2023, 3, 1), on(2023, 4, 29)), on(2023, 3, 1), on(2023, 4, 30), on(2023, 2, 28), on(2023, 2, 28), on(2023, 4, 30)},
		{closed(on(2023, 3, 2), on(2023, 4, 30)), on(2023, 4, 30), on(2023, 5, 1), on(2023, 3, 1), on(2023, 3, 1), on(2023, 5, 1)},
	} {
		for kind, want := range []int{x.n, x.next, x.modNext, x.prev, x.modP} {
			to(t, x.c, x.n, kind, want, api.OK)
		}
		next(t, x.c, x.n, x.next, api.OK)
		prev(t, x.c, x.n, x.prev, api.OK)
	}
}

// TestRefusedWays is of P14.3: where one way, or the other one, is refused, and with which code then.
func TestRefusedWays(t *testing.T) {
	for _, x := range []struct {
		c             api.Cal
		n, kind, want int
		code          api.Errno
	}{
		// The next day of business is in another month, and there is none the other way.
		{closed(on(2024, 7, 2), on(2024, 8, 31)), on(2024, 8, 31), api.LModNext, 0, api.ErrNone},
		{closed(on(2024, 7, 3), on(2024, 8, 31)), on(2024, 8, 31), api.LModNext, on(2024, 7, 2), api.OK},
		{closed(on(2023, 11, 1), on(2023, 12, 31)), on(2023, 12, 31), api.LModNext, 0, api.ErrNone},
		{closed(on(2024, 7, 2), on(2024, 8, 31)), on(2024, 8, 31), api.LNext, on(2024, 9, 1), api.OK},
		{closed(on(2024, 7, 2), on(2024, 8, 31)), on(2024, 8, 31), api.LModPrev, 0, api.ErrNone},
		// The last one is in another month, and there is none the other way.
		{closed(on(2024, 9, 1), on(2024, 10, 31)), on(2024, 9, 1), api.LModPrev, 0, api.ErrNone},
		{closed(on(2024, 9, 1), on(2024, 10, 30)), on(2024, 9, 1), api.LModPrev, on(2024, 10, 31), api.OK},
		{closed(on(2024, 1, 1), on(2024, 3, 1)), on(2024, 1, 1), api.LModPrev, 0, api.ErrNone},
		{closed(on(2024, 9, 1), on(2024, 10, 31)), on(2024, 9, 1), api.LPrev, on(2024, 8, 31), api.OK},
		{closed(on(2024, 9, 1), on(2024, 10, 31)), on(2024, 9, 1), api.LModNext, 0, api.ErrNone},
		// What is refused the first way isn't sought the other one, though there is a day of business.
		{closed(on(2024, 9, 2), on(2024, 11, 30)), on(2024, 9, 2), api.LModNext, 0, api.ErrNone},
		{closed(on(2024, 9, 2), on(2024, 11, 30)), on(2024, 9, 2), api.LModPrev, on(2024, 9, 1), api.OK},
		{closed(on(2024, 6, 1), on(2024, 8, 30)), on(2024, 8, 30), api.LModPrev, 0, api.ErrNone},
		{closed(on(2024, 6, 1), on(2024, 8, 30)), on(2024, 8, 30), api.LModNext, on(2024, 8, 31), api.OK},
		// The days are left the one way, or the other one.
		{closed(1, 31), 31, api.LModNext, 0, api.ErrDay},
		{closed(1, 31), 31, api.LNext, 32, api.OK},
		{closed(1, 31), 31, api.LModPrev, 0, api.ErrDay},
		{closed(2, 31), 31, api.LModNext, 1, api.OK},
		{closed(1, 30), 5, api.LModPrev, 0, api.ErrDay},
		{closed(1, 30), 5, api.LModNext, 31, api.OK},
		{closed(1, 59), 59, api.LModNext, 0, api.ErrDay},
		{closed(1, 90), 60, api.LModNext, 0, api.ErrDay},
		{closed(1, 90), 61, api.LModNext, 0, api.ErrNone},
		{closed(1, 89), 61, api.LModNext, 90, api.OK},
		{closed(1, 90), 90, api.LModNext, 0, api.ErrNone},
		{closed(end-30, end), end - 30, api.LModPrev, 0, api.ErrDay},
		{closed(end-30, end), end - 30, api.LPrev, end - 31, api.OK},
		{closed(end-30, end), end - 30, api.LModNext, 0, api.ErrDay},
		{closed(end-30, end-1), end - 30, api.LModPrev, end, api.OK},
		{closed(end-29, end), end - 5, api.LModNext, 0, api.ErrDay},
		{closed(end-29, end), end - 5, api.LModPrev, end - 30, api.OK},
		{closed(end-60, end), end - 60, api.LModPrev, 0, api.ErrNone},
		{closed(end-60, end), end - 59, api.LModPrev, 0, api.ErrDay},
		{closed(end-59, end), end - 58, api.LModPrev, end - 60, api.OK},
		// Neither way.
		{closed(1, 200), 30, api.LModNext, 0, api.ErrNone},
		{closed(1, 200), 30, api.LModPrev, 0, api.ErrDay},
		{closed(end-200, end), end - 30, api.LModNext, 0, api.ErrDay},
		{closed(end-200, end), end - 30, api.LModPrev, 0, api.ErrNone},
	} {
		to(t, x.c, x.n, x.kind, x.want, x.code)
		held(t, x.c, x.n)
	}
}

// TestRises is of P14.4: what is rolled is a day of business, but by none, and of later days it isn't earlier.
func TestRises(t *testing.T) {
	r := rand.New(rand.NewSource(142))
	for range 150 {
		around := someDay(r)
		c := anyCal(r, around)
		if r.Intn(2) == 0 {
			// Some of all days are off, so that rolls go far.
			c.Days = slices.DeleteFunc(closed(around-150, around+150).Days, func(int) bool { return r.Intn(30) == 0 })
		}
		for kind := range 5 {
			late := 0
			for n := around - 170; n <= around+170; n++ {
				got, e := To(c, n, kind)
				if e != api.OK {
					continue
				}
				if got < late {
					t.Errorf("%+v: of %d by %d %d, behind %d", c, n, kind, got, late)
				}
				if late = got; kind != api.LNone && !cal.Is(c, got) || kind == api.LNone && got != n {
					t.Errorf("%+v: of %d by %d %d", c, n, kind, got)
				}
				if cal.Is(c, n) && got != n {
					t.Errorf("%+v: %d by %d goes to %d", c, n, kind, got)
				}
				// What is rolled stays where it is.
				to(t, c, got, kind, got, api.OK)
			}
		}
	}
}

// TestNothingTurned is of R3: calendars that are handed in stay, also what is behind the end of their lists.
func TestNothingTurned(t *testing.T) {
	rules, days := append(slices.Clone(someRules), make([]api.Rule, 20)...), append(closed(738900, 738950).Days, 7, 3, -5, 1<<40)
	wasRules, wasDays := slices.Clone(rules), slices.Clone(days)
	c := api.Cal{Off: weekend, Rules: rules[:len(someRules)], Days: days[:51]}
	was := copied(c)
	for n := 738800; n <= 739100; n++ {
		held(t, c, n)
	}
	for _, n := range noDays {
		held(t, c, n)
	}
	if !same(c, was) || !slices.Equal(rules, wasRules) || !slices.Equal(days, wasDays) {
		t.Errorf("%+v now, not %+v", c, was)
	}
	// What is written into a calendar behind a call holds in the next one.
	next(t, c, 738945, 738951, api.OK)
	days[50] = 738951
	next(t, c, 738945, 738950, api.OK)
	c.Off[(738950-1)%7] = true
	next(t, c, 738945, 738952, api.OK)
}

// question is a call of each kind, and what was answered.
type question struct {
	c      api.Cal
	n      int
	kind   int
	days   [3]int
	codes  [3]api.Errno
	name   string
	number int
	form   api.Errno
}

// answered makes the calls.
func answered(c api.Cal, n, kind int) question {
	q := question{c: c, n: n, kind: kind, name: Name(kind)}
	q.days[0], q.codes[0] = Next(c, n)
	q.days[1], q.codes[1] = Prev(c, n)
	q.days[2], q.codes[2] = To(c, n, kind)
	q.number, q.form = Kind(q.name)
	return q
}

// held holds what is answered now against what was answered ahead.
func (q question) held(t *testing.T) {
	t.Helper()
	now := answered(q.c, q.n, q.kind)
	if now.days != q.days || now.codes != q.codes || now.name != q.name || now.number != q.number || now.form != q.form {
		t.Errorf("%+v, and %+v ahead", now, q)
	}
}

// questions are calls by chance.
func questions(seed int64, many int) []question {
	r := rand.New(rand.NewSource(seed))
	all := make([]question, many)
	for i := range all {
		around := someDay(r)
		all[i] = answered(anyCal(r, around), around-130+r.Intn(260), r.Intn(8)-1)
	}
	return all
}

// TestAnyOrder is of R4: nothing is kept between calls, so that they answer alike in any order.
func TestAnyOrder(t *testing.T) {
	all := questions(143, 1000)
	r := rand.New(rand.NewSource(144))
	for range 3 {
		for _, i := range r.Perm(len(all)) {
			all[i].held(t)
			all[i].held(t)
		}
	}
}

// TestAtOnce is of R4: calls beside each other share nothing.
func TestAtOnce(t *testing.T) {
	shared := questions(145, 300)
	var all sync.WaitGroup
	for range 8 {
		all.Go(func() {
			for _, q := range shared {
				q.held(t)
			}
		})
	}
	all.Wait()
}

// TestExample is the chapter's: 2024-08-31, a Saturday, weekends off.
func TestExample(t *testing.T) {
	c, n := api.Cal{Off: weekend}, on(2024, 8, 31)
	following, _ := Kind("following")
	modfollowing, _ := Kind("modfollowing")
	to(t, c, n, following, on(2024, 9, 2), api.OK)
	to(t, c, n, modfollowing, on(2024, 8, 30), api.OK)
	// By their numbers: 738945 is 2024-02-29.
	to(t, c, 739129, api.LNext, 739131, api.OK)
	to(t, c, 739129, api.LModNext, 739128, api.OK)
}
