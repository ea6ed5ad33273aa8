package accrue

import (
	"math"
	"math/rand"
	"slices"
	"sync"
	"testing"

	"demurrage/api"
)

// question is what is asked of all three calls.
type question struct {
	x          api.Terms
	s          api.Side
	open, a, b int
	parts      []api.Ratio
}

// answer is what all three tell.
type answer struct {
	all        []int
	one, since int
	e, f, g    api.Errno
}

// ask asks all three calls.
func (q question) ask() answer {
	var a answer
	a.since, a.e = Between(q.x, q.s, q.open, q.a, q.b)
	a.all, a.f = All(q.open, q.x.Rate, q.parts)
	if len(q.parts) > 0 {
		a.one, a.g = Of(q.open, q.x.Rate, q.parts[0])
	}
	return a
}

// same: are two answers the same?
func (a answer) same(b answer) bool {
	return slices.Equal(a.all, b.all) && a.one == b.one && a.since == b.since && a.e == b.e && a.f == b.f && a.g == b.g
}

// someQuestion is one by chance, often one that has an answer.
func someQuestion(r *rand.Rand) question {
	all := sides()
	q := question{loan(r.Intn(9)-1, r.Intn(20000)-200), all[r.Intn(len(all))], r.Intn(1000000000) - 1000000, at(2023, 1, 1) + r.Intn(500), at(2023, 6, 1) + r.Intn(500), someParts(r)}
	if r.Intn(3) == 0 {
		q.s = api.Side{Eom: r.Intn(2) == 0, End: q.b, Freq: 1 + r.Intn(12), Refs: halves()}
	}
	if r.Intn(10) == 0 {
		q.open = math.MaxInt - r.Intn(10)
	}
	if r.Intn(20) == 0 {
		q.b = noDays()[r.Intn(len(noDays()))]
	}
	return q
}

// someQuestions are many, with what was answered first.
func someQuestions(seed int64) ([]question, []answer) {
	r := rand.New(rand.NewSource(seed))
	var questions []question
	var answers []answer
	for range 3000 {
		q := someQuestion(r)
		questions = append(questions, q)
		answers = append(answers, q.ask())
	}
	return questions, answers
}

// TestAnyOrder is of R4: nothing is kept between calls, so that they answer alike in any order.
func TestAnyOrder(t *testing.T) {
	questions, answers := someQuestions(187)
	r := rand.New(rand.NewSource(188))
	for range 3 {
		for _, i := range r.Perm(len(questions)) {
			if got := questions[i].ask(); !got.same(answers[i]) {
				t.Fatalf("%+v: %+v, then %+v", questions[i], answers[i], got)
			}
		}
	}
}

// TestAtOnce is of R4: calls beside each other share nothing.
func TestAtOnce(t *testing.T) {
	questions, answers := someQuestions(189)
	var wait sync.WaitGroup
	for w := range 8 {
		wait.Go(func() {
			for i := range questions {
				k := (i*7 + w*311) % len(questions)
				if got := questions[k].ask(); !got.same(answers[k]) {
					t.Errorf("%+v: %+v, then %+v", questions[k], answers[k], got)
					return
				}
			}
		})
	}
	wait.Wait()
}

// TestHandedIn is of R3: neither parts nor what a way is told beside are written into, nor what lies behind their ends in the same memory.
func TestHandedIn(t *testing.T) {
	parts := append(quarters(), wrongParts()...)
	refs := append(halves(), -7, 5, 1<<40)
	beforeParts, beforeRefs := slices.Clone(parts), slices.Clone(refs)
	for n := range len(parts) + 1 {
		for _, rate := range []int{500, 0, -1, math.MaxInt} {
			All(100000, rate, parts[:n])
			All(math.MaxInt, rate, parts[n:])
		}
	}
	for way := -1; way <= 7; way++ {
		for n := range len(refs) + 1 {
			s := api.Side{Eom: true, End: halves()[2], Freq: 2, Refs: refs[:n]}
			Between(loan(way, 500), s, 100000, halves()[0], halves()[2])
			Between(loan(way, -1), s, 100000, halves()[2], halves()[0])
			Between(loan(way, 500), s, math.MaxInt, 0, halves()[0])
		}
	}
	if !slices.Equal(parts, beforeParts) {
		t.Error(parts)
	}
	if !slices.Equal(refs, beforeRefs) {
		t.Error(refs)
	}
}

// TestNotKept is of R3: what is written later into what was handed in turns nothing that was told, nor what is told of other memory.
func TestNotKept(t *testing.T) {
	parts, refs := quarters(), halves()
	s := api.Side{Freq: 2, Refs: refs}
	told, _ := All(100000, 500, parts)
	since, _ := Between(loan(api.CICMA, 500), s, 100000, refs[0], refs[1])
	clear(parts)
	refs[1] += 100
	if !slices.Equal(told, []int{1250, 1264, 1260, 2500}) || since != 2500 {
		t.Error(told, since)
	}
	if got, e := All(100000, 500, parts); got != nil || e != api.ErrArg {
		t.Error(got, e)
	}
	if got, _ := All(100000, 500, quarters()); !slices.Equal(got, told) {
		t.Error(got)
	}
	heldBetween(t, loan(api.CICMA, 500), s, 100000, halves()[0], halves()[1])
	heldBetween(t, loan(api.CICMA, 500), api.Side{Freq: 2, Refs: halves()}, 100000, halves()[0], halves()[1])
}

// TestOwnMemory is of R3: what was answered isn't turned by a later call, and no later call by what is done to it.
func TestOwnMemory(t *testing.T) {
	first, _ := All(100000, 500, quarters())
	kept := slices.Clone(first)
	for i := range 100 {
		All(i, 700, quarters())
		All(i, 700, quarters()[:i%4])
	}
	if !slices.Equal(first, kept) {
		t.Error(first, kept)
	}
	all := first[:cap(first)]
	for i := range all {
		all[i] = -1
	}
	_ = append(first, -1, -1)
	second, e := All(100000, 500, quarters())
	if !slices.Equal(second, kept) || e != api.OK {
		t.Error(second, e)
	}
	third, _ := All(100000, 500, quarters())
	clear(second)
	if !slices.Equal(third, kept) {
		t.Error(third)
	}
}
