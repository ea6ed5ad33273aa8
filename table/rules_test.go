package table

import (
	"math"
	"math/rand"
	"slices"
	"sync"
	"testing"

	"demurrage/api"
)

// question is what is asked of Of.
type question struct {
	kind int
	order
}

// reply is what Of tells of it, and Sums of that.
type reply struct {
	rows        []api.Row
	sums        api.Row
	code, other api.Errno
}

func (q question) ask() reply {
	var a reply
	a.rows, a.code = Of(q.kind, q.money, q.rate, q.parts)
	a.sums, a.other = Sums(a.rows)
	return a
}

func (a reply) differs(b reply) bool {
	return a.sums != b.sums || a.code != b.code || a.other != b.other || !slices.Equal(a.rows, b.rows)
}

// questions are some by chance, most of them such that are answered by a table.
func questions(r *rand.Rand, n int) []question {
	all := make([]question, n)
	for i := range all {
		q := question{r.Intn(4), order{r.Intn(100000), r.Intn(9000), mixed(r, r.Intn(15))}}
		switch r.Intn(12) {
		case 0:
			q.money = -q.money
		case 1:
			q.rate = -q.rate
		case 2:
			q.parts = append(q.parts, share(bound, 1))
		case 3:
			q.parts = append(q.parts, share(2, 6))
		}
		all[i] = q
	}
	return all
}

// TestCallsBeside is of R4: what is answered hangs on no call ahead, nor on one that goes on beside it.
func TestCallsBeside(t *testing.T) {
	all := questions(rand.New(rand.NewSource(215)), 600)
	first := make([]reply, len(all))
	for i, q := range all {
		first[i] = q.ask()
	}
	var wait sync.WaitGroup
	for seed := range int64(8) {
		wait.Go(func() {
			for _, i := range rand.New(rand.NewSource(seed)).Perm(len(all)) {
				if again := all[i].ask(); again.differs(first[i]) {
					t.Errorf("%+v: %+v, then %+v", all[i], first[i], again)
				}
			}
		})
	}
	wait.Wait()
	for i := len(all) - 1; i >= 0; i-- {
		if all[i].ask().differs(first[i]) {
			t.Errorf("%+v", all[i])
		}
	}
}

// TestPieces is of R3: pieces of longer lists are handed in, and nothing of these is written into.
func TestPieces(t *testing.T) {
	parts := slices.Concat(alike(4, share(1, 4)), []api.Ratio{share(2, 4), share(bound, 1)}, alike(4, share(1, 12)))
	rows := lines(9, 1, 2, 3, 7, 7, 2, 2, 4, 5, 5, -1, 0, 0, 5, 5, bound, bound, bound, 1, 1, 1, 1, 2, 0)
	keptParts, keptRows := slices.Clone(parts), slices.Clone(rows)
	for from := range parts {
		for to := from; to <= len(parts); to++ {
			for kind := -1; kind < 4; kind++ {
				question{kind, order{1000, 500, parts[from:to]}}.ask()
			}
		}
	}
	for from := range rows {
		for to := from; to <= len(rows); to++ {
			want, code := summed(keptRows[from:to])
			if got, e := Sums(rows[from:to]); got != want || e != code {
				t.Error(from, to, got, e, want, code)
			}
		}
	}
	if !slices.Equal(parts, keptParts) || !slices.Equal(rows, keptRows) {
		t.Error(parts, rows)
	}
}

// TestAnswersStay is of R3: an answer is turned neither by later calls nor by what becomes of what was handed in, and what is done to it turns no later one.
func TestAnswersStay(t *testing.T) {
	r := rand.New(rand.NewSource(216))
	for kind := range 3 {
		o := order{1000, 1000, alike(2, share(1, 2))}
		want, _ := o.chapter(kind)
		rows, _ := Of(kind, o.money, o.rate, o.parts)
		sums, _ := Sums(rows)
		clear(o.parts)
		for _, q := range questions(r, 300) {
			q.ask()
		}
		if o.gets(t, kind, nil, api.ErrArg); !slices.Equal(rows, want) {
			t.Error(kind, rows, want)
		}
		for i := range rows {
			rows[i] = api.Row{Open: -1, Int: -1, Back: math.MaxInt, Close: -1}
		}
		order{1000, 1000, alike(2, share(1, 2))}.gets(t, kind, want, api.OK)
		if again, e := Sums(want); again != sums || e != api.OK || sums.Open != 1000 {
			t.Error(kind, sums, again, e)
		}
	}
}

// TestKindsApart is of the chapter's ways: each kind is found by its number, and told apart from the others by its type.
func TestKindsApart(t *testing.T) {
	for number, is := range []func(tables) bool{
		func(k tables) bool { _, ok := k.(bullets); return ok },
		func(k tables) bool { _, ok := k.(equals); return ok },
		func(k tables) bool { _, ok := k.(levels); return ok },
	} {
		for other := range 3 {
			if k := find(other); is(k) != (number == other) || k.kind() != other {
				t.Error(number, other)
			}
		}
		if is(find(3)) || is(find(-1)) {
			t.Error(number)
		}
	}
}
