package sat_test

import (
	"slices"
	"sync"
	"testing"

	"metronome/api"
	"metronome/drat"
	"metronome/sat"
)

func same(a, b api.Answer) bool {
	return a.What == b.What && slices.Equal(a.Model, b.Model) && slices.EqualFunc(a.Proof, b.Proof, func(x, y api.Line) bool {
		return x.Gone == y.Gone && slices.Equal(x.Clause, y.Clause)
	})
}

// roomy is the formula's clauses with spare room in which something stands.
func roomy(f api.Formula) api.Formula {
	f.Clauses = append(slices.Clone(f.Clauses), []int{77}, nil)[:len(f.Clauses)]
	for i, clause := range f.Clauses {
		f.Clauses[i] = append(slices.Clone(clause), 55, 0, -66)[:len(clause)]
	}
	return f
}

// whole is all numbers that stand in the clauses, those in spare room, too.
func whole(f api.Formula) (all []int) {
	for _, clause := range f.Clauses[:cap(f.Clauses)] {
		all = append(append(all, 1000000), clause[:cap(clause)]...)
	}
	return all
}

// asks has formulas of all kinds.
func asks(seed int) (api.Formula, int) {
	m := newMaker(seed)
	budget := pick(m, 3, 100, api.MaxBudget)
	switch seed % 4 {
	case 0:
		return m.even(60, 258, 3), budget
	case 1:
		return holes(3 + m.r.Intn(4)), budget
	case 2:
		return m.even(90, 110, 2), budget
	}
	return m.formula(), budget
}

// TestP2504Given: what is handed in is not changed.
func TestP2504Given(t *testing.T) {
	for seed := range 600 {
		f, budget := asks(seed)
		f = roomy(f)
		if seed%10 == 0 {
			f.Clauses = append(f.Clauses, []int{1, 0, f.Vars + 1})
		}
		was := whole(f)
		sat.Solve(f, budget)
		if !slices.Equal(whole(f), was) {
			t.Fatalf("%d: %v, no longer %v", seed, whole(f), was)
		}
	}
}

// TestP2504New: what is answered is memory of its own, each list of it.
func TestP2504New(t *testing.T) {
	count := map[int]int{}
	for seed := range 600 {
		f, _ := asks(seed)
		f = roomy(f)
		was := whole(f)
		a, _ := sat.Solve(f, api.MaxBudget)
		b, _ := sat.Solve(f, api.MaxBudget)
		count[a.What]++
		for i := range a.Model[:cap(a.Model)] {
			a.Model[:cap(a.Model)][i] = !a.Model[:cap(a.Model)][i]
		}
		for at := range a.Proof {
			clause := a.Proof[at].Clause[:cap(a.Proof[at].Clause)]
			for i := range clause {
				clause[i] = 4000 + at
			}
		}
		for at := range a.Proof {
			if slices.ContainsFunc(a.Proof[at].Clause, func(literal int) bool { return literal != 4000+at }) {
				t.Fatalf("%d: two lines in one place", seed)
			}
		}
		if c, _ := sat.Solve(f, api.MaxBudget); !same(b, c) || !slices.Equal(whole(f), was) {
			t.Fatalf("%d: %v, no longer %v", seed, c, b)
		}
	}
	if count[api.Sat] < 100 || count[api.Unsat] < 100 {
		t.Error(count)
	}
}

// TestP2504Alone: what is answered does not hang on what was asked ahead, or is asked at the same time.
func TestP2504Alone(t *testing.T) {
	const count = 200
	ask := func(seed int) api.Answer {
		f, budget := asks(seed)
		a, _ := sat.Solve(f, budget)
		return a
	}
	answers := make([]api.Answer, count)
	for i := range count {
		answers[i] = ask(i)
	}
	var all sync.WaitGroup
	for start := range 4 {
		all.Go(func() {
			for i := range count {
				i := (i*7 + start*count/4) % count
				if a := ask(i); !same(a, answers[i]) {
					t.Errorf("%d: %v, then %v", i, answers[i], a)
				}
			}
		})
	}
	all.Wait()
}

// TestP2504Shared: the same formula is solved at the same time.
func TestP2504Shared(t *testing.T) {
	f := holes(6)
	var all sync.WaitGroup
	for range 4 {
		all.Go(func() {
			for range 10 {
				a, e := sat.Solve(f, api.MaxBudget)
				if at, wrong := drat.Check(f, a.Proof); e != api.OK || a.What != api.Unsat || at != -1 || wrong != api.OK {
					t.Error(a.What, e, at, wrong)
				}
			}
		})
	}
	all.Wait()
}
