package accrue

import (
	"math"
	"math/rand"
	"slices"
	"strconv"
	"testing"

	"demurrage/api"
)

// wantedAll is P18.2, word by word: Of each part, one by one.
func wantedAll(open, rate int, parts []api.Ratio) ([]int, api.Errno) {
	var all []int
	for _, part := range parts {
		one, e := Of(open, rate, part)
		if e != api.OK {
			return nil, e
		}
		all = append(all, one)
	}
	return all, api.OK
}

// told holds All against what it should answer, and the parts against what they were.
func told(t *testing.T, open, rate int, parts []api.Ratio, want []int, code api.Errno) {
	t.Helper()
	before := slices.Clone(parts)
	got, e := All(open, rate, parts)
	if !slices.Equal(got, want) || e != code {
		t.Fatalf("All(%d, %d, %v) = %v, %d, not %v, %d", open, rate, parts, got, e, want, code)
	}
	if !slices.Equal(parts, before) {
		t.Fatalf("All(%d, %d, %v) leaves %v", open, rate, before, parts)
	}
}

// heldAll holds All against Of each part, and answers its code.
func heldAll(t *testing.T, open, rate int, parts []api.Ratio) api.Errno {
	t.Helper()
	want, code := wantedAll(open, rate, parts)
	told(t, open, rate, parts, want, code)
	return code
}

// quarters are four parts of a year, of which one isn't right, or is too wide, where a test puts it there.
func quarters() []api.Ratio {
	return []api.Ratio{{N: 1, D: 4}, {N: 91, D: 360}, {N: 92, D: 365}, {N: 1, D: 2}}
}

// TestAll is of P18.2: no parts, one, some and many, written out and against Of.
func TestAll(t *testing.T) {
	told(t, 100000, 500, nil, nil, api.OK)
	told(t, 100000, 500, []api.Ratio{}, nil, api.OK)
	told(t, 100000, 500, []api.Ratio{{N: 1, D: 4}}, []int{1250}, api.OK)
	told(t, 100000, 500, quarters(), []int{1250, 1264, 1260, 2500}, api.OK)
	told(t, 0, 500, quarters(), []int{0, 0, 0, 0}, api.OK)
	told(t, 100000, 0, quarters(), []int{0, 0, 0, 0}, api.OK)
	told(t, 1000, 500, []api.Ratio{{N: 1, D: 4}, {N: 3, D: 4}, {N: 0, D: 1}, {N: 1, D: 4}, {N: 1, D: 4}}, []int{12, 38, 0, 12, 12}, api.OK)
	told(t, most, 10000, []api.Ratio{{N: 1, D: 1}, {N: 1, D: most / 4096}, {N: 1, D: 2}}, []int{most, 4096, most / 2}, api.OK)
	for _, open := range amounts() {
		for _, rate := range rates() {
			for _, part := range rightParts() {
				heldAll(t, open, rate, []api.Ratio{part})
			}
			heldAll(t, open, rate, rightParts())
			heldAll(t, open, rate, quarters())
		}
	}
}

// TestNoParts is of P18.2: of no parts there is no code, whatever is open.
func TestNoParts(t *testing.T) {
	for _, n := range append(amounts(), below()...) {
		told(t, n, 500, nil, nil, api.OK)
		told(t, 1000, n, []api.Ratio{}, nil, api.OK)
		told(t, n, n, quarters()[:0], nil, api.OK)
	}
}

// TestMany is of P18.2: as many parts as a loan has periods, and more.
func TestMany(t *testing.T) {
	r := rand.New(rand.NewSource(184))
	for _, many := range []int{2, 3, 10, 100, 1199, 1200, 1201, 1204, 5000, 100000} {
		var parts []api.Ratio
		for len(parts) < many {
			if part := rightPart(r); part.N < 10000 && part.D <= widest {
				parts = append(parts, part)
			}
		}
		if e := heldAll(t, 123456789, 725, parts); e != api.OK {
			t.Error(many, e)
		}
		// The last of them all isn't right.
		parts[many-1] = api.Ratio{N: 2, D: 4}
		told(t, 123456789, 725, parts, nil, api.ErrArg)
	}
}

// TestAllBelow is of P18.2: what is below 0 is ErrArg of each part, so of all.
func TestAllBelow(t *testing.T) {
	for _, low := range below() {
		told(t, low, 500, quarters(), nil, api.ErrArg)
		told(t, 1000, low, quarters(), nil, api.ErrArg)
		told(t, low, low, quarters()[:1], nil, api.ErrArg)
		told(t, low, math.MaxInt, []api.Ratio{{N: most, D: 1}, {N: 1, D: most}}, nil, api.ErrArg)
	}
}

// TestOneWithCode is of P18.2: a part with a code among others, at each place.
func TestOneWithCode(t *testing.T) {
	put := func(part api.Ratio, code api.Errno) {
		t.Helper()
		for i := range quarters() {
			parts := quarters()
			parts[i] = part
			told(t, 100000, 500, parts, nil, code)
			told(t, 100000, 500, parts[i:], nil, code)
			told(t, 100000, 500, parts[:i+1], nil, code)
			if e := heldAll(t, 100000, 500, parts[:i]); e != api.OK {
				t.Errorf("%v ahead of %v: %d", parts[:i], part, e)
			}
		}
	}
	for _, part := range wrongParts() {
		put(part, api.ErrArg)
	}
	for _, part := range []api.Ratio{{N: 1, D: most}, {N: 1, D: widest + 1}, {N: most - 1, D: most}, {N: most, D: 1}, {N: most, D: most - 1}} {
		put(part, api.ErrOver)
	}
}

// TestFirstCode is of P18.2: of two parts with a code the first one's.
func TestFirstCode(t *testing.T) {
	wrong, over := api.Ratio{N: 2, D: 4}, api.Ratio{N: 1, D: most}
	for i := range quarters() {
		for j := i + 1; j < len(quarters()); j++ {
			parts := quarters()
			parts[i], parts[j] = wrong, over
			told(t, 100000, 500, parts, nil, api.ErrArg)
			parts[i], parts[j] = over, wrong
			told(t, 100000, 500, parts, nil, api.ErrOver)
		}
	}
	told(t, 100000, 500, []api.Ratio{wrong, over, wrong, over}, nil, api.ErrArg)
	told(t, 100000, 500, []api.Ratio{over, wrong, over, wrong}, nil, api.ErrOver)
	told(t, -1, 500, []api.Ratio{over, wrong}, nil, api.ErrArg)
}

// someParts are parts by chance, some of which may have a code.
func someParts(r *rand.Rand) []api.Ratio {
	var parts []api.Ratio
	for range r.Intn(8) {
		part := rightPart(r)
		if part.D > widest && r.Intn(4) > 0 {
			part = api.Ratio{N: 31, D: 360}
		}
		if r.Intn(20) == 0 {
			part = wrongParts()[r.Intn(len(wrongParts()))]
		}
		parts = append(parts, part)
	}
	return parts
}

// TestAllByChance is of P18.2: against Of, one by one.
func TestAllByChance(t *testing.T) {
	r := rand.New(rand.NewSource(185))
	met := map[api.Errno]int{}
	for range 30000 {
		met[heldAll(t, r.Intn(1000000000), r.Intn(20000)-100, someParts(r))]++
	}
	for _, code := range []api.Errno{api.OK, api.ErrArg, api.ErrOver} {
		if met[code] < 1000 {
			t.Error(met)
		}
	}
}

// TestEach is of the chapter's section on ways: what is told of things of any sort, one by one, up to the first code.
func TestEach(t *testing.T) {
	asked := 0
	length := func(text string) (int, api.Errno) {
		asked++
		if text == "none" {
			return 5, api.ErrNone
		}
		if text == "form" {
			return 6, api.ErrForm
		}
		return len(text), api.OK
	}
	for _, c := range []struct {
		texts []string
		want  []int
		code  api.Errno
		asked int
	}{
		{nil, nil, api.OK, 0}, {[]string{""}, []int{0}, api.OK, 1}, {[]string{"a", "bcd", "ef"}, []int{1, 3, 2}, api.OK, 3},
		{[]string{"none"}, nil, api.ErrNone, 1}, {[]string{"a", "form", "none", "b"}, nil, api.ErrForm, 2}, {[]string{"a", "b", "none"}, nil, api.ErrNone, 3},
	} {
		asked = 0
		got, e := each(c.texts, length)
		if !slices.Equal(got, c.want) || e != c.code || asked != c.asked {
			t.Errorf("each of %q: %v, %d, %d asked", c.texts, got, e, asked)
		}
	}
	words, e := each([]int{1, 20}, func(n int) (string, api.Errno) { return strconv.Itoa(n), api.OK })
	if !slices.Equal(words, []string{"1", "20"}) || e != api.OK {
		t.Error(words, e)
	}
}
