package sat_test

import (
	"testing"

	"metronome/api"
	"metronome/cnf"
	"metronome/drat"
	"metronome/sat"
)

// hasModel tries all values of few variables.
func hasModel(f api.Formula) bool {
values:
	for bits := range 1 << f.Vars {
		for _, clause := range f.Clauses {
			if !holds(clause, bits) {
				continue values
			}
		}
		return true
	}
	return false
}

func holds(clause []int, bits int) bool {
	for _, literal := range clause {
		if bits>>(max(literal, -literal)-1)&1 == 1 == (literal > 0) {
			return true
		}
	}
	return false
}

// twoHave tells whether clauses of one or two literals have a model: if no variable leads to its opposite and back.
func twoHave(f api.Formula) bool {
	next := map[int][]int{}
	for _, clause := range f.Clauses {
		a, b := clause[0], clause[len(clause)-1]
		next[-a] = append(next[-a], b)
		next[-b] = append(next[-b], a)
	}
	leads := func(from, to int) bool {
		seen, list := map[int]bool{from: true}, []int{from}
		for len(list) > 0 {
			for _, literal := range next[list[0]] {
				if !seen[literal] {
					seen[literal] = true
					list = append(list, literal)
				}
			}
			list = list[1:]
		}
		return seen[to]
	}
	for v := range f.Vars {
		if leads(v+1, -v-1) && leads(-v-1, v+1) {
			return false
		}
	}
	return true
}

// asked solves a formula, holds the answer against the chapter's words, and tells what it is.
func asked(t *testing.T, f api.Formula, budget int) int {
	t.Helper()
	a, e := sat.Solve(f, budget)
	if e != api.OK {
		t.Fatal(e)
	}
	switch {
	case a.What == api.Sat && cnf.Holds(f, a.Model) && len(a.Proof) == 0:
	case a.What == api.Unsat && len(a.Model) == 0:
		if at, e := drat.Check(f, a.Proof); at != -1 || e != api.OK {
			t.Fatalf("line %d of %d: %v", at, len(a.Proof), e)
		}
	case a.What == api.Unknown && len(a.Model) == 0 && len(a.Proof) == 0:
	default:
		t.Fatalf("%d, a model of %d, a proof of %d", a.What, len(a.Model), len(a.Proof))
	}
	return a.What
}
