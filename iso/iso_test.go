package iso

import (
	"math"
	"math/rand"
	"regexp"
	"strings"
	"testing"
	"time"

	"demurrage/api"
)

// at is a day as the library's calendar knows it, which goes by the Gregorian rule for all years too.
func at(n int) time.Time { return time.Date(1, time.January, n, 0, 0, 0, 0, time.UTC) }

// number is the number of the library's day, by how many seconds it is off from the first one.
func number(day time.Time) int { return int((day.Unix()-at(1).Unix())/86400) + 1 }

// form is the form of a day's text, byte by byte.
var form = regexp.MustCompile(`\A[0-9]{4}-[0-9]{2}-[0-9]{2}\z`)

// known is what the library's calendar reads of a text.
func known(s string) (int, api.Errno) {
	if !form.MatchString(s) {
		return 0, api.ErrForm
	}
	day, err := time.Parse("2006-01-02", s)
	if err != nil || day.Year() < 1 {
		return 0, api.ErrDay
	}
	return number(day), api.OK
}

// read tells whether Read answers as it should.
func read(t *testing.T, s string, want int, code api.Errno) {
	t.Helper()
	if got, e := Read(s); got != want || e != code {
		t.Errorf("Read(%q) = %d, %d, not %d, %d", s, got, e, want, code)
	}
}

// TestEveryDay is of P6.1, P6.2 and P6.3: every day, as the library's calendar shows it, and read again.
func TestEveryDay(t *testing.T) {
	for n := api.MinDay; n <= api.MaxDay; n++ {
		want := at(n).Format("2006-01-02")
		got, e := Show(n)
		if got != want || e != api.OK {
			t.Fatalf("Show(%d) = %q, %d, not %q", n, got, e, want)
		}
		if back, e := Read(want); back != n || e != api.OK {
			t.Fatalf("Read(%q) = %d, %d, not %d", want, back, e, n)
		}
	}
}

// TestDays are of P6.1, P6.2 and P6.3: years of one to four digits, months and days of one and of two, ends of February, the first day and the last one.
func TestDays(t *testing.T) {
	for _, x := range []struct {
		n int
		s string
	}{
		{1, "0001-01-01"}, {9, "0001-01-09"}, {10, "0001-01-10"}, {31, "0001-01-31"}, {32, "0001-02-01"}, {59, "0001-02-28"}, {60, "0001-03-01"},
		{273, "0001-09-30"}, {274, "0001-10-01"}, {365, "0001-12-31"}, {366, "0002-01-01"}, {1155, "0004-02-29"}, {3287, "0009-12-31"}, {3288, "0010-01-01"},
		{36159, "0099-12-31"}, {36160, "0100-01-01"}, {36218, "0100-02-28"}, {36219, "0100-03-01"}, {364877, "0999-12-31"}, {364878, "1000-01-01"},
		{577736, "1582-10-15"}, {693654, "1900-02-28"}, {693655, "1900-03-01"}, {719163, "1970-01-01"}, {730179, "2000-02-29"}, {730180, "2000-03-01"},
		{738579, "2023-02-28"}, {738580, "2023-03-01"}, {738944, "2024-02-28"}, {738945, "2024-02-29"}, {738946, "2024-03-01"}, {766703, "2100-02-28"}, {766704, "2100-03-01"},
		{3652029, "9999-12-01"}, {3652058, "9999-12-30"}, {3652059, "9999-12-31"},
	} {
		if got, e := Show(x.n); got != x.s || e != api.OK {
			t.Errorf("Show(%d) = %q, %d, not %q", x.n, got, e, x.s)
		}
		read(t, x.s, x.n, api.OK)
	}
}

// TestNoDay is of P6.1: numbers that are no day's.
func TestNoDay(t *testing.T) {
	for _, n := range []int{0, -1, -2, -9, -365, -738945, -3652059, 3652060, 3652061, 3652059 + 366, 10000000, 1 << 31, 1 << 32, 1<<32 + 738945, 1 << 62,
		math.MaxInt32, math.MinInt32, math.MaxInt - 1, math.MaxInt, math.MinInt + 1, math.MinInt} {
		if got, e := Show(n); got != "" || e != api.ErrDay {
			t.Errorf("Show(%d) = %q, %d", n, got, e)
		}
	}
}

// TestNoDayRead is of P6.2: texts of the form, of days that may not be.
func TestNoDayRead(t *testing.T) {
	for _, s := range []string{
		"0000-00-00", "0000-01-01", "0000-02-29", "0000-12-31", "2024-00-00", "2024-00-01", "2024-00-31", "2024-13-01", "2024-13-31", "2024-20-01", "2024-99-99",
		"2024-01-00", "2024-02-00", "2024-12-00", "2024-01-32", "2024-01-40", "2024-01-99", "2024-02-30", "2024-02-31", "2023-02-29", "1900-02-29", "2100-02-29",
		"0001-02-29", "0100-02-29", "9999-02-29", "2024-03-32", "2024-04-31", "2024-05-32", "2024-06-31", "2024-07-32", "2024-08-32", "2024-09-31",
		"2024-10-32", "2024-11-31", "2024-12-32", "0001-00-01", "0001-01-00", "9999-13-01", "9999-12-32", "9999-99-99", "0000-99-99",
	} {
		read(t, s, 0, api.ErrDay)
	}
	for _, s := range []string{"0004-02-29", "1600-02-29", "2000-02-29", "2024-02-29", "9996-02-29", "2023-02-28", "2024-04-30", "2024-12-31"} {
		if got, e := Read(s); got < api.MinDay || got > api.MaxDay || e != api.OK {
			t.Errorf("Read(%q) = %d, %d", s, got, e)
		}
	}
}

// TestOtherForms are of P6.2: texts of too few or too many bytes, strokes that lack or stand elsewhere, signs, blanks, and runes of several bytes.
func TestOtherForms(t *testing.T) {
	for _, s := range []string{
		"", "-", "--", "2", "2024", "2024-02", "2024-2-29", "024-02-29", "24-02-29", "2024-02-2", "2024-02-9", "2024-02-029", "02024-02-29", "12024-02-29",
		"2024-02-290", "2024-02-29 ", " 2024-02-29", "2024-02-29\n", "2024-02-29\x00", "\x002024-02-29", "2024-02-29T00:00", "2024-02-292024-02-29",
		"20240229", "2024022900", "2024--0229", "20240-2-29", "202-402-29", "2024-022-9", "2024-0-229", "-202402-29", "2024-0229-", "--20240229", "20240229--",
		"----------", "2024-02--9", "2024-02-2-", "-024-02-29", "2024--2-29", "2024-0--29", "+024-02-29", "2024-+2-29", "2024-02-+9", " 024-02-29", "2024- 2-29",
		"2024-02- 9", "2024-02-9 ", "2024/02/29", "2024-02/29", "2024/02-29", "2024.02.29", "2024 02 29", "2024_02_29", "2024:02:29", "202a-02-29", "2024-0x-29",
		"2024-02-2O", "abcd-ef-gh", "0x24-02-29", "1e03-02-29", "2_24-02-29", "2024002-29", "2024-02029", "2024902-29", "2024-02929",
		"29-02-2024", "02-29-2024", "0000000000", "\x00\x00\x00\x00-\x00\x00-\x00\x00", "\xff\xff\xff\xff-\xff\xff-\xff\xff",
		// Ten bytes, with runes of several among them; then ten runes and more bytes.
		"20é-02-29", "éé-02-29", "2024-é-29", "2024-02-é", "2024é2-29", "2024-02é9", "2€-02-29", "2024-€29", "𝟐-02-29", "2024-02é", "٢٤-02-29", "2024-٢-29",
		"2024-02-٩", "2024–2-29", "20–02-29", "2024-0–2", "é24-02-29", "2024-02-2é", "2024–02–29", "2024−02−29", "٢٠٢٤-٠٢-٢٩", "２０２４-０２-２９",
		"２024-02-29", "2024-02-2９", "2024\u00ad02-29", "\ufffd2-02-29", "2024-\xc3\xa9-29", "2024-02-\xc3\xa9", "2024-0\xc3-29", "\xed\xa0\x804-02-29",
	} {
		read(t, s, 0, api.ErrForm)
	}
}

// TestEachPlace is of P6.2: each byte there is, at each place of a day's text.
func TestEachPlace(t *testing.T) {
	for _, s := range []string{"2024-02-29", "0001-01-01", "9999-12-31", "0000-00-00", "1999-10-08"} {
		for place := range len(s) {
			for b := range 256 {
				text := s[:place] + string([]byte{byte(b)}) + s[place+1:]
				want, code := known(text)
				read(t, text, want, code)
			}
		}
	}
}

// TestFormAhead is of P6.2: a text of another form, whose day may not be either, has another form.
func TestFormAhead(t *testing.T) {
	for _, s := range []string{"0000-00-0", "0000-00-000", "0000-13-0x", "9999-99/99", "x000-99-99", "2023-02-29 ", "2023-2-29", "2024-13-é"} {
		read(t, s, 0, api.ErrForm)
	}
}

// TestByLibrary is of P6.2 and P6.3: texts made by chance, of bytes that stand in days' texts or nearly do; what is read is shown just so.
func TestByLibrary(t *testing.T) {
	r := rand.New(rand.NewSource(6))
	pieces := []string{"0", "1", "2", "3", "9", "0", "1", "2", "-", "-", "/", ":", " ", "+", "a", "é", "٢", "\xff", "\x00"}
	for range 200000 {
		var text strings.Builder
		for place, mark := range "yyyy-mm-dd" {
			switch {
			case r.Intn(60) == 0:
				text.WriteString(pieces[r.Intn(len(pieces))])
			case mark == '-':
				text.WriteString("-")
			case place == 5 || place == 8:
				text.WriteString(pieces[r.Intn(3)])
			default:
				text.WriteByte(byte('0' + r.Intn(10)))
			}
			if r.Intn(200) == 0 {
				text.WriteString(pieces[r.Intn(len(pieces))])
			}
		}
		want, code := known(text.String())
		got, e := Read(text.String())
		if got != want || e != code {
			t.Fatalf("Read(%q) = %d, %d, not %d, %d", text.String(), got, e, want, code)
		}
		if e != api.OK {
			continue
		}
		if shown, e := Show(got); shown != text.String() || e != api.OK {
			t.Fatalf("%q is read, and shown as %q, %d", text.String(), shown, e)
		}
	}
}

// TestAllForms is of P6.2 and P6.3: of a few years each month and each day of the month that two digits can tell.
func TestAllForms(t *testing.T) {
	for _, y := range []string{"0000", "0001", "0004", "0099", "0100", "0400", "1900", "2000", "2023", "2024", "9999"} {
		for rest := range 10000 {
			digits := string([]byte{byte('0' + rest/1000), byte('0' + rest/100%10), '-', byte('0' + rest/10%10), byte('0' + rest%10)})
			text := y + "-" + digits
			want, code := known(text)
			read(t, text, want, code)
			if shown, e := Show(want); code == api.OK && (shown != text || e != api.OK) {
				t.Errorf("%q is shown as %q, %d", text, shown, e)
			}
		}
	}
}

// TestExample is the chapter's, of P6.1 and P6.2.
func TestExample(t *testing.T) {
	if got, e := Show(738945); got != "2024-02-29" || e != api.OK {
		t.Error(got, e)
	}
	if got, e := Read("2024-02-29"); got != 738945 || e != api.OK {
		t.Error(got, e)
	}
}
