package count

import (
	"math"
	"math/big"
	"math/rand"
	"slices"
	"strings"
	"testing"
	"time"

	"demurrage/actual"
	"demurrage/api"
	"demurrage/icma"
	"demurrage/ratio"
	"demurrage/thirty"
)

// day0 is the day ahead of the first one, as the library's calendar knows it.
var day0 = time.Date(1, time.January, 0, 0, 0, 0, 0, time.UTC).Unix() / 86400

// number is the number of a day of the library's calendar.
func number(y, m, d int) int {
	return int(time.Date(y, time.Month(m), d, 0, 0, 0, 0, time.UTC).Unix()/86400 - day0)
}

// names are the chapter's, by the numbers of their ways.
var names = map[int]string{
	0: "30/360", 1: "30e/360", 2: "30e/360isda", 3: "act/360", 4: "act/365f", 5: "act/act", 6: "act/acticma",
}

// noKinds are numbers of no way.
var noKinds = []int{-1, 7, 8, 9, 10, -2, -6, -7, 13, 100, 255, 256, 257, -256, 1 << 16, 1 << 31, 1 << 32, 1<<32 + 1, 1<<32 + 6, -1 << 32, -1<<32 + 3, 1 << 62, -1 << 62, 1<<63 - 7, math.MaxInt, math.MaxInt - 1, math.MinInt, math.MinInt + 1, math.MinInt + 6}

// noDays are numbers that are no day's.
var noDays = []int{0, -1, -2, -366, 3652060, 3652061, 7304118, -3652059, math.MinInt, math.MinInt + 1, math.MaxInt, math.MaxInt - 1, 1 << 32, 1<<32 + 738945, -1 << 32, 1 << 62, -1 << 62}

// halves are periods of two a year.
var halves = []int{number(2022, 12, 31), number(2023, 6, 30), number(2023, 12, 31), number(2024, 6, 30), number(2024, 12, 31), number(2025, 6, 30)}

// wanted is what chapters 7, 8 and 9 tell, by the words of this one.
func wanted(kind, a, b int, s api.Side) (api.Ratio, api.Errno) {
	switch kind {
	case 0:
		return thirty.US(a, b, s.Eom)
	case 1:
		return thirty.E(a, b)
	case 2:
		return thirty.Isda(a, b, s.End)
	case 3:
		return actual.By360(a, b)
	case 4:
		return actual.By365(a, b)
	case 5:
		return actual.ByYears(a, b)
	case 6:
		return icma.Part(a, b, s.Refs, s.Freq)
	}
	return api.Ratio{}, api.ErrArg
}

// same: are two sides the same?
func same(s, u api.Side) bool {
	return s.Eom == u.Eom && s.End == u.End && s.Freq == u.Freq && slices.Equal(s.Refs, u.Refs)
}

// copied is a side in new memory.
func copied(s api.Side) api.Side {
	s.Refs = slices.Clone(s.Refs)
	return s
}

// answered holds an answer against what it should be, and what stands beside against what it was; beside a code there is nothing, and without one a fraction in lowest terms.
func answered(t *testing.T, kind, a, b int, s api.Side, want api.Ratio, code api.Errno) {
	t.Helper()
	before := copied(s)
	got, e := Part(kind, a, b, s)
	if got != want || e != code {
		t.Fatalf("Part(%d, %d, %d, %v) = %v, %d, not %v, %d", kind, a, b, s, got, e, want, code)
	}
	if !same(s, before) {
		t.Fatalf("Part(%d, %d, %d, %v) leaves %v", kind, a, b, before, s)
	}
	if e == api.OK && !ratio.Right(got) || e != api.OK && got != (api.Ratio{}) {
		t.Fatalf("Part(%d, %d, %d, %v) = %v, %d", kind, a, b, s, got, e)
	}
}

// held holds an answer against what the chapters below tell, and answers its code.
func held(t *testing.T, kind, a, b int, s api.Side) api.Errno {
	t.Helper()
	want, code := wanted(kind, a, b, copied(s))
	answered(t, kind, a, b, s, want, code)
	return code
}

// sides are what a way may be told beside, and such that may not be.
func sides() []api.Side {
	l := []api.Side{{}, {Eom: true}}
	for _, refs := range [][]int{
		nil, {}, {738945}, halves, {1, 3652059}, {738945, 738945}, {738946, 738945}, {738900, 738950, 738949, 739400}, {0, 3652059}, {1, 3652060}, {math.MinInt, math.MaxInt},
		{738900, 738900, 739400}, {738886, 739068, 739252}, {3652059, 1},
	} {
		for _, freq := range []int{2, 12, 0, 13, math.MinInt} {
			for _, end := range []int{0, 738945, 3652059, math.MaxInt} {
				l = append(l, api.Side{End: end, Freq: freq, Refs: refs}, api.Side{Eom: true, End: end, Freq: freq, Refs: refs})
			}
		}
	}
	return l
}

// TestConstants are those that the document tells.
func TestConstants(t *testing.T) {
	for i, kind := range []int{api.CUS, api.CE, api.CISDA, api.CA360, api.CA365, api.CAA, api.CICMA} {
		if kind != i {
			t.Errorf("%s is %d", names[i], kind)
		}
	}
}

// TestName is of P10.1: each way's name, and nothing of numbers of no way.
func TestName(t *testing.T) {
	for kind := -1000; kind <= 1000; kind++ {
		if got := Name(kind); got != names[kind] {
			t.Errorf("Name(%d) = %q", kind, got)
		}
	}
	for _, kind := range noKinds {
		if got := Name(kind); got != "" {
			t.Errorf("Name(%d) = %q", kind, got)
		}
	}
	for bit := 3; bit < 64; bit++ {
		for kind := range 7 {
			if far := kind + 1<<bit; Name(far) != "" {
				t.Errorf("Name(%d) = %q", far, Name(far))
			}
		}
	}
}

// TestKind is of P10.1: the way of each name, also of one that is made anew, and its name again.
func TestKind(t *testing.T) {
	for kind, name := range names {
		for _, text := range []string{name, string([]byte(name)), strings.Join(strings.Split(name, "/"), "/"), ("x" + name + "y")[1 : 1+len(name)], Name(kind)} {
			if got, e := Kind(text); got != kind || e != api.OK {
				t.Errorf("Kind(%q) = %d, %d", text, got, e)
			}
		}
	}
	for kind := range 7 {
		if got, e := Kind(Name(kind)); got != kind || e != api.OK || len(Name(kind)) == 0 {
			t.Errorf("Kind(%q) = %d, %d", Name(kind), got, e)
		}
	}
}

// isName: is a text one of the names?
func isName(text string) bool {
	for _, name := range names {
		if text == name {
			return true
		}
	}
	return false
}

// noName holds that a text that is no name is refused, and passes names over.
func noName(t *testing.T, text string) {
	t.Helper()
	if isName(text) {
		return
	}
	if got, e := Kind(text); got != 0 || e != api.ErrForm {
		t.Errorf("Kind(%q) = %d, %d", text, got, e)
	}
}

// TestKindNone is of P10.1: texts that are no names, though many are near to one.
func TestKindNone(t *testing.T) {
	for _, text := range []string{
		"", " ", "/", "360", "30", "act", "act/", "/360", "isda", "0", "6", "7", "-1", "30/365", "act/364", "act/365", "act/366", "30e/365", "30e/360 isda", "30/360isda", "act/actisda", "act/icma", "actual/360", "ACT/ACT", "Act/360",
		"30E/360", "30E/360ISDA", "act/365F", "act/actICMA", "30u/360", "30us/360", "none", "following", "bullet", "act/360\n", "act/360\x00", "\x00act/360", "act\\360", "act∕360", "аct/360", "act/act\xff", "\xff", "\xff\xfe", "\x80", "\x00", "\u2028", "é",
		"30/360,30e/360", "30/360 30e/360", strings.Repeat("act/act", 1000), strings.Repeat("\xff", 100000), "act/acticma ", " act/acticma", "\tact/360", "act/360\r", "act /360", "act/ 360", "a\u0301ct/360", "３０/360",
	} {
		if isName(text) {
			t.Fatal(text)
		}
		noName(t, text)
	}
	for _, name := range names {
		noName(t, strings.ToUpper(name)+" ")
		noName(t, name+name)
		noName(t, strings.ReplaceAll(name, "/", ""))
		if upper := strings.ToUpper(name); upper != name {
			noName(t, upper)
		}
		for at := range len(name) {
			noName(t, name[:at])
			noName(t, name[at+1:])
			noName(t, name[:at]+name[at+1:])
			noName(t, name[:at]+strings.ToUpper(name[at:at+1])+name[at+1:])
		}
		for b := range 256 {
			letter := string([]byte{byte(b)})
			for at := range len(name) + 1 {
				noName(t, name[:at]+letter+name[at:])
				if at < len(name) {
					noName(t, name[:at]+letter+name[at+1:])
				}
			}
		}
	}
}

// TestKindByChance is of P10.1: short texts of the names' letters, and of all bytes.
func TestKindByChance(t *testing.T) {
	r := rand.New(rand.NewSource(101))
	letters := "306/actefisdm5"
	for range 200000 {
		text := make([]byte, r.Intn(12))
		for i := range text {
			if text[i] = letters[r.Intn(len(letters))]; r.Intn(50) == 0 {
				text[i] = byte(r.Intn(256))
			}
		}
		noName(t, string(text))
	}
}

// TestApart is of P10.2: days of which all seven ways tell something else, worked out by hand.
func TestApart(t *testing.T) {
	a, b := number(2024, 2, 29), number(2024, 8, 31)
	s := api.Side{Freq: 2, Refs: halves}
	met := map[api.Ratio]bool{}
	for kind, want := range []api.Ratio{{N: 91, D: 180}, {N: 181, D: 360}, {N: 1, D: 2}, {N: 23, D: 45}, {N: 184, D: 365}, {N: 92, D: 183}, {N: 8433, D: 16744}} {
		answered(t, kind, a, b, s, want, api.OK)
		met[want] = true
	}
	if len(met) != 7 {
		t.Error(met)
	}
}

// TestByHand is of P10.2: ordinary days by each way, worked out by hand.
func TestByHand(t *testing.T) {
	years := []int{number(2022, 1, 1), number(2023, 1, 1), number(2024, 1, 1), number(2025, 1, 1)}
	for _, x := range []struct {
		kind, a, b int
		s          api.Side
		want       api.Ratio
	}{
		{0, number(2024, 1, 31), number(2024, 3, 31), api.Side{}, api.Ratio{N: 1, D: 6}},
		{0, number(2023, 2, 28), number(2023, 3, 31), api.Side{}, api.Ratio{N: 11, D: 120}},
		{0, number(2023, 2, 28), number(2023, 3, 31), api.Side{Eom: true}, api.Ratio{N: 1, D: 12}},
		{0, number(2023, 2, 28), number(2024, 2, 29), api.Side{Eom: true}, api.Ratio{N: 1, D: 1}},
		{1, number(2023, 2, 28), number(2023, 3, 31), api.Side{Eom: true}, api.Ratio{N: 4, D: 45}},
		{2, number(2023, 2, 28), number(2023, 3, 31), api.Side{}, api.Ratio{N: 1, D: 12}},
		{2, number(2023, 8, 30), number(2024, 2, 29), api.Side{}, api.Ratio{N: 1, D: 2}},
		{2, number(2023, 8, 30), number(2024, 2, 29), api.Side{End: number(2024, 2, 29)}, api.Ratio{N: 179, D: 360}},
		{3, number(2023, 12, 31), number(2024, 1, 2), api.Side{}, api.Ratio{N: 1, D: 180}},
		{3, 1, 3652059, api.Side{}, api.Ratio{N: 1826029, D: 180}},
		{4, number(2023, 1, 1), number(2024, 1, 1), api.Side{}, api.Ratio{N: 1, D: 1}},
		{4, number(2024, 1, 1), number(2025, 1, 1), api.Side{}, api.Ratio{N: 366, D: 365}},
		{5, number(2024, 1, 1), number(2025, 1, 1), api.Side{}, api.Ratio{N: 1, D: 1}},
		{5, number(2023, 12, 31), number(2024, 1, 2), api.Side{}, api.Ratio{N: 731, D: 133590}},
		{6, number(2024, 1, 1), number(2025, 1, 1), api.Side{Freq: 1, Refs: years}, api.Ratio{N: 1, D: 1}},
		{6, number(2022, 1, 1), number(2025, 1, 1), api.Side{Freq: 12, Refs: years}, api.Ratio{N: 1, D: 4}},
		{6, number(2023, 12, 31), number(2024, 1, 2), api.Side{Freq: 1, Refs: years}, api.Ratio{N: 731, D: 133590}},
		{6, 1, 3652059, api.Side{Freq: 7, Refs: []int{1, 3652059}}, api.Ratio{N: 1, D: 7}},
	} {
		answered(t, x.kind, x.a, x.b, x.s, x.want, api.OK)
	}
	for kind := range 7 {
		for _, n := range []int{halves[0], halves[5], 738945} {
			answered(t, kind, n, n, api.Side{Freq: 2, Refs: halves}, api.Ratio{N: 0, D: 1}, api.OK)
		}
	}
}

// TestEachWay is of P10.2: each way of pairs of days around ends of months, told all kinds of things beside, against the chapters below.
func TestEachWay(t *testing.T) {
	all := []int{1, 2, 31, 59, 60, 3652058, 3652059, 0, 3652060}
	for _, m := range []int{1, 2, 8} {
		for _, y := range []int{2023, 2024} {
			first := number(y, m+1, 1)
			all = append(all, first-2, first-1, first)
		}
	}
	met := map[api.Errno]int{}
	beside := sides()
	// Steps of seven meet all that stands beside, though not each with each.
	for i := 0; i < len(beside); i += 7 {
		for kind := -1; kind <= 7; kind++ {
			for _, a := range all {
				for _, b := range all {
					met[held(t, kind, a, b, beside[i])]++
				}
			}
		}
	}
	for _, e := range []api.Errno{api.OK, api.ErrArg, api.ErrDay, api.ErrOrder, api.ErrSide} {
		if met[e] < 1000 {
			t.Error(met)
		}
	}
}

// TestByChance is of P10.2: days of all years, told things beside by chance, against the chapters below.
func TestByChance(t *testing.T) {
	r := rand.New(rand.NewSource(10))
	met := map[[2]int]int{}
	for range 100000 {
		kind := r.Intn(9) - 1
		a := 1 + r.Intn(api.MaxDay)
		b := a + r.Intn([]int{40, 1000, 100000}[r.Intn(3)])
		s := api.Side{Eom: r.Intn(2) == 0, End: []int{b, a, 0, r.Intn(api.MaxDay)}[r.Intn(4)], Freq: r.Intn(14), Refs: []int{a - r.Intn(3), a + 1 + r.Intn(100), b + 50 + r.Intn(100)}}
		if r.Intn(3) > 0 {
			slices.Sort(s.Refs)
		}
		met[[2]int{kind, int(held(t, kind, a, b, s))}]++
		held(t, kind, b, a, s)
	}
	for kind := range 7 {
		if met[[2]int{kind, 0}] < 2000 {
			t.Error(met)
		}
	}
}

// TestWhole is of P10.2: years that lie between two turns of a year, by all ways that count such a one as 1.
func TestWhole(t *testing.T) {
	for y := 1; y < 9999; y++ {
		a, b := number(y, 1, 1), number(y+1, 1, 1)
		s := api.Side{Freq: 1, Refs: []int{a, b}}
		for _, kind := range []int{0, 1, 2, 5, 6} {
			answered(t, kind, a, b, s, api.Ratio{N: 1, D: 1}, api.OK)
		}
		for kind, length := range map[int]int64{3: 360, 4: 365} {
			want := big.NewRat(int64(b-a), length)
			answered(t, kind, a, b, s, api.Ratio{N: int(want.Num().Int64()), D: int(want.Denom().Int64())}, api.OK)
		}
	}
}

// TestNoDay is of P10.2: numbers that are no day, on either side and on both, by each way: ErrDay, ahead of all else, whatever stands beside.
func TestNoDay(t *testing.T) {
	for _, s := range []api.Side{{}, {Freq: 2, Refs: halves}, {Eom: true, End: 738945, Freq: 13, Refs: []int{5, 4}}, {Freq: 1, Refs: []int{0, 3652060}}, {Freq: 1, Refs: []int{1, 3652059}}} {
		for kind := range 7 {
			for _, none := range noDays {
				for _, n := range []int{1, 2, 738945, halves[0], 3652058, 3652059, 0, -1, 3652060, none} {
					answered(t, kind, none, n, s, api.Ratio{}, api.ErrDay)
					answered(t, kind, n, none, s, api.Ratio{}, api.ErrDay)
				}
			}
		}
	}
}

// TestOrder is of P10.2: days the wrong way round, by each way: ErrOrder, ahead of ErrSide.
func TestOrder(t *testing.T) {
	for _, s := range sides() {
		for kind := range 7 {
			for _, x := range [][2]int{{2, 1}, {3652059, 3652058}, {3652059, 1}, {738946, 738945}, {halves[1], halves[0]}, {halves[5] + 1, halves[0] - 1}, {number(2024, 3, 1), number(2024, 2, 29)}, {number(2024, 3, 31), number(2024, 3, 30)}} {
				answered(t, kind, x[0], x[1], s, api.Ratio{}, api.ErrOrder)
			}
		}
	}
}

// TestSide is of P10.2: periods that may not be, and days outside them, of CICMA alone.
func TestSide(t *testing.T) {
	for _, s := range []api.Side{
		{}, {Freq: 2}, {Freq: 2, Refs: []int{}}, {Freq: 2, Refs: halves[:1]}, {Freq: 0, Refs: halves}, {Freq: 13, Refs: halves}, {Freq: -1, Refs: halves}, {Freq: math.MinInt, Refs: halves}, {Freq: math.MaxInt, Refs: halves}, {Refs: halves},
		{Freq: 2, Refs: []int{halves[0], halves[2], halves[1], halves[5]}}, {Freq: 2, Refs: []int{halves[5], halves[0]}}, {Freq: 2, Refs: []int{738945, 738945}}, {Freq: 2, Refs: []int{0, 3652059}}, {Freq: 2, Refs: []int{1, 3652060}}, {Freq: 2, Refs: []int{-5, 0}},
		{Freq: 2, Refs: make([]int, 1205)}, {Freq: 2, Refs: append(slices.Repeat([]int{1}, 1204), 3652059)},
		// These may be, but the days are outside them.
		{Freq: 2, Refs: []int{738946, 739100}}, {Freq: 2, Refs: []int{738900, 738999}}, {Freq: 2, Refs: []int{1, 2}}, {Freq: 2, Refs: []int{3652058, 3652059}}, {Eom: true, End: 739000, Freq: 2, Refs: []int{738950, 738990}},
	} {
		answered(t, api.CICMA, 738945, 739000, s, api.Ratio{}, api.ErrSide)
		for kind := range 6 {
			want, e := wanted(kind, 738945, 739000, api.Side{Eom: s.Eom, End: s.End})
			if e != api.OK {
				t.Fatal(kind, e)
			}
			answered(t, kind, 738945, 739000, s, want, api.OK)
		}
	}
	answered(t, api.CICMA, halves[0]-1, halves[1], api.Side{Freq: 2, Refs: halves}, api.Ratio{}, api.ErrSide)
	answered(t, api.CICMA, halves[4], halves[5]+1, api.Side{Freq: 2, Refs: halves}, api.Ratio{}, api.ErrSide)
	answered(t, api.CICMA, halves[0], halves[5], api.Side{Freq: 2, Refs: halves}, api.Ratio{N: 5, D: 2}, api.OK)
}

// TestNoWay is of P10.2: numbers of no way, whatever the days and what stands beside are.
func TestNoWay(t *testing.T) {
	for _, kind := range noKinds {
		for _, s := range []api.Side{{}, {Eom: true, End: 738945, Freq: 2, Refs: halves}, {Freq: 13, Refs: []int{5, 4}}, {Refs: []int{0}}, {End: math.MinInt, Freq: math.MaxInt}} {
			for _, x := range [][2]int{{738945, 739000}, {738945, 738945}, {739000, 738945}, {0, 738945}, {738945, 3652060}, {0, 0}, {3652060, -1}, {math.MaxInt, math.MinInt}, {math.MinInt, math.MaxInt}} {
				answered(t, kind, x[0], x[1], s, api.Ratio{}, api.ErrArg)
			}
		}
	}
}

// TestBeside is of P10.3: of each way only what it is told beside turns its answer, be all else as it may.
func TestBeside(t *testing.T) {
	told := map[int]func(s, of *api.Side){
		api.CUS: func(s, of *api.Side) { s.Eom = of.Eom }, api.CISDA: func(s, of *api.Side) { s.End = of.End }, api.CICMA: func(s, of *api.Side) { s.Freq, s.Refs = of.Freq, of.Refs },
	}
	all := append(sides(), api.Side{Freq: 4, Refs: halves}, api.Side{Freq: 2, Refs: []int{1, 738945, 3652059}}, api.Side{Eom: true, Freq: 2, Refs: halves}, api.Side{End: number(2024, 2, 29), Freq: 2, Refs: halves})
	for kind := range 7 {
		for _, x := range [][2]int{{number(2023, 2, 28), number(2024, 2, 29)}, {number(2023, 8, 30), number(2024, 2, 29)}, {number(2023, 2, 28), number(2023, 3, 31)}, {738945, 739310}, {1, 3652059}, {0, 5}, {5, 4}} {
			met := map[api.Ratio]bool{}
			for _, s := range all {
				alone := api.Side{}
				if take := told[kind]; take != nil {
					take(&alone, &s)
				}
				got, e := Part(kind, x[0], x[1], alone)
				answered(t, kind, x[0], x[1], s, got, e)
				met[got] = true
			}
			if told[kind] == nil && len(met) != 1 {
				t.Errorf("Part(%d, %d, %d): %v", kind, x[0], x[1], met)
			}
		}
	}
}

// TestTurns is of P10.2 and P10.3: Eom turns CUS, End CISDA, and Refs and Freq CICMA, and none of them another way.
func TestTurns(t *testing.T) {
	a, b := number(2023, 2, 28), number(2024, 2, 29)
	plain := api.Side{Freq: 2, Refs: halves}
	for name, x := range map[string]struct {
		s    api.Side
		kind int
	}{
		"Eom": {api.Side{Eom: true, Freq: 2, Refs: halves}, 0}, "End": {api.Side{End: b, Freq: 2, Refs: halves}, 2}, "Freq": {api.Side{Freq: 3, Refs: halves}, 6}, "Refs": {api.Side{Freq: 2, Refs: []int{a - 100, b}}, 6},
		"no Freq": {api.Side{Refs: halves}, 6}, "no Refs": {api.Side{Freq: 2}, 6}, "Refs that fall": {api.Side{Freq: 2, Refs: []int{b, a}}, 6}, "Freq far off": {api.Side{Freq: math.MinInt, Refs: halves}, 6},
	} {
		for kind := range 7 {
			before, e := Part(kind, a, b, plain)
			got, f := Part(kind, a, b, x.s)
			if turned := got != before; turned != (kind == x.kind) {
				t.Errorf("%s, by %d: %v, %d, then %v, %d", name, kind, before, e, got, f)
			}
		}
	}
	// Ends that are no day, or of another month, turn nothing.
	for _, end := range []int{0, -1, 3652060, math.MinInt, math.MaxInt, a, b - 1, b + 1} {
		answered(t, api.CISDA, a, b, api.Side{End: end}, api.Ratio{N: 1, D: 1}, api.OK)
	}
}

// TestRefsStay is of R3: what lies behind Refs in the same memory stays, too, and what was answered stays when they are written to.
func TestRefsStay(t *testing.T) {
	memory := append(slices.Clone(halves), -7, 5, 1<<40)
	before := slices.Clone(memory)
	s := api.Side{Eom: true, End: 738945, Freq: 2, Refs: memory[:6]}
	for kind := -1; kind <= 7; kind++ {
		held(t, kind, halves[0], halves[3], s)
		held(t, kind, halves[3], halves[0], s)
		held(t, kind, 0, halves[0], s)
		held(t, kind, halves[0], halves[5]+1, s)
		held(t, kind, halves[0], halves[3], api.Side{Freq: 2, Refs: memory})
		if !slices.Equal(memory, before) {
			t.Fatal(memory)
		}
	}
	got, _ := Part(api.CICMA, halves[0], halves[1], s)
	memory[1] += 100
	if got != (api.Ratio{N: 1, D: 2}) {
		t.Error(got)
	}
	held(t, api.CICMA, halves[0], halves[1], s)
}

// TestAlike is of R4: nothing is kept between calls, so that they answer alike in any order.
func TestAlike(t *testing.T) {
	type asked struct {
		kind, a, b int
		s          api.Side
	}
	type told struct {
		part  api.Ratio
		e     api.Errno
		name  string
		again int
	}
	tell := func(q asked) told {
		part, e := Part(q.kind, q.a, q.b, q.s)
		name := Name(q.kind)
		again, _ := Kind(name)
		return told{part, e, name, again}
	}
	r := rand.New(rand.NewSource(103))
	all := sides()
	var questions []asked
	var first []told
	for range 3000 {
		q := asked{r.Intn(10) - 2, 738800 + r.Intn(300), 738900 + r.Intn(300), all[r.Intn(len(all))]}
		questions = append(questions, q)
		first = append(first, tell(q))
	}
	for range 3 {
		for _, i := range r.Perm(len(questions)) {
			if got := tell(questions[i]); got != first[i] {
				t.Fatalf("%v: %v, then %v", questions[i], first[i], got)
			}
		}
	}
}

// TestExample is the chapter's.
func TestExample(t *testing.T) {
	answered(t, api.CA360, 1, 91, api.Side{}, api.Ratio{N: 1, D: 4}, api.OK)
}
