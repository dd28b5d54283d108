package drat_test

import (
	"slices"
	"sync"
	"testing"

	"metronome/api"
	"metronome/drat"
)

// roomy is the list with spare room in which something stands.
func roomy[T any](list []T, marks ...T) []T {
	return append(slices.Clone(list), marks...)[:len(list)]
}

func roomyClauses(clauses [][]int) [][]int {
	clauses = roomy(clauses, []int{77}, nil)
	for i := range clauses {
		clauses[i] = roomy(clauses[i], 55, 0, -66)
	}
	return clauses
}

func roomyLines(lines []api.Line) []api.Line {
	lines = roomy(lines, gone(1), add(-1), add())
	for i := range lines {
		lines[i].Clause = roomy(lines[i].Clause, 55, 0, -66)
	}
	return lines
}

// whole is all numbers that stand in the clauses, those in spare room, too.
func whole(clauses [][]int) (all []int) {
	for _, clause := range clauses[:cap(clauses)] {
		all = append(append(all, 1000000), clause[:cap(clause)]...)
	}
	return all
}

func wholeLines(lines []api.Line) (all []int) {
	for _, line := range lines[:cap(lines)] {
		all = append(all, 2000000)
		if line.Gone {
			all = append(all, 3000000)
		}
		all = append(all, whole([][]int{line.Clause})...)
	}
	return all
}

// TestP2404Given: what is handed in is not changed.
func TestP2404Given(t *testing.T) {
	for seed := range 1500 {
		m := newMaker(seed)
		f := m.formula()
		proof := roomyLines(m.proof(f))
		f.Clauses = roomyClauses(f.Clauses)
		clause := roomy(m.clause(f.Vars, 4), 55, 0, -66)
		if m.r.Intn(6) == 0 {
			m.spoil(f, append(slices.Clone(f.Clauses), clause)...)
		}
		clauses, lines, literals := whole(f.Clauses), wholeLines(proof), whole([][]int{clause})
		drat.Check(f, proof)
		drat.Implied(f, clause)
		if !slices.Equal(whole(f.Clauses), clauses) || !slices.Equal(wholeLines(proof), lines) || !slices.Equal(whole([][]int{clause}), literals) {
			t.Fatalf("%v, %v, %v, no longer %v, %v, %v", whole(f.Clauses), wholeLines(proof), clause, clauses, lines, literals)
		}
	}
}

// TestP2404Alone: what is answered does not hang on what was asked ahead, or is asked at the same time.
func TestP2404Alone(t *testing.T) {
	type answer struct {
		at      int
		e       api.Errno
		implied bool
	}
	const count = 300
	ask := func(seed int) (a answer) {
		m := newMaker(seed)
		f := m.formula()
		a.at, a.e = drat.Check(f, m.proof(f))
		a.implied = drat.Implied(f, m.clause(f.Vars, 4))
		return a
	}
	answers := make([]answer, count)
	for i := range count {
		answers[i] = ask(i)
	}
	var all sync.WaitGroup
	for start := range 4 {
		all.Go(func() {
			for i := range count {
				i := (i*7 + start*count/4) % count
				if a := ask(i); a != answers[i] {
					t.Errorf("%d: %v, then %v", i, answers[i], a)
				}
			}
		})
	}
	all.Wait()
}

// TestP2404Shared: the same proof is gone over at the same time.
func TestP2404Shared(t *testing.T) {
	f := holes(4)
	proof := split(f, nil)
	var all sync.WaitGroup
	for range 4 {
		all.Go(func() {
			for range 20 {
				if at, e := drat.Check(f, proof); at != -1 || e != api.OK {
					t.Error(at, e)
				}
			}
		})
	}
	all.Wait()
}
