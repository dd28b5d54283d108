package cnf

import (
	"iter"

	"metronome/api"
)

// Op of the gates that have clauses.
const (
	opZero = 1
	opAnd  = 3
)

// weight is what a clause counts for the length of a formula.
func weight(clause []int) int { return len(clause) + 1 }

// isLong stops at the first clause that is too much: the sum of all lengths may
// be beyond any int, where clauses share their memory.
func isLong(clauses [][]int) bool {
	size := 0
	for _, clause := range clauses {
		if size += weight(clause); size > api.MaxLits {
			return true
		}
	}
	return false
}

func areLiterals(f api.Formula) bool {
	for _, clause := range f.Clauses {
		for _, literal := range clause {
			if variable(literal, f.Vars) == 0 {
				return false
			}
		}
	}
	return true
}

// variable answers the variable of a literal; 0, if it is of none of so many.
func variable(literal, vars int) int {
	switch {
	case literal < -vars: // asked ahead: the least int has no opposite
		return 0
	case literal < 0:
		literal = -literal
		fallthrough
	case literal <= vars:
		return literal
	}
	return 0
}

func clauseHolds(clause []int, model []bool) bool {
	for _, literal := range clause {
		if model[variable(literal, len(model)-1)] == (literal > 0) {
			return true
		}
	}
	return false
}

// told tells the clauses of the net, gate by gate, then those of the wires. It
// makes each when it is asked for, so that a net that is too long ends early.
func told(n api.Net, wires []int) iter.Seq[[]int] {
	return func(yield func([]int) bool) {
		for at, g := range n.Gates {
			for _, clause := range ofGate(g, at+1) {
				if !yield(clause) {
					return
				}
			}
		}
		for _, wire := range wires {
			if !yield([]int{literalOf(wire)}) {
				return
			}
		}
	}
}

// ofGate are the clauses that say that the variable is what the gate is.
func ofGate(g api.Gate, v int) [][]int {
	switch g.Op {
	case opZero:
		return [][]int{{-v}}
	case opAnd:
		a, b := literalOf(g.A), literalOf(g.B)
		return [][]int{{-v, a}, {-v, b}, {v, -a, -b}}
	}
	return nil
}

func literalOf(wire int) int {
	if wire%2 == 1 {
		return -(wire/2 + 1)
	}
	return wire/2 + 1
}
