package cnf_test

import (
	"fmt"
	"slices"
	"strings"

	"metronome/api"
)

// wantText is the text of a formula, without asking whether Check takes it.
func wantText(f api.Formula) string {
	var b strings.Builder
	fmt.Fprintf(&b, "p cnf %d %d\n", f.Vars, len(f.Clauses))
	for _, clause := range f.Clauses {
		for _, literal := range clause {
			fmt.Fprintf(&b, "%d ", literal)
		}
		b.WriteString("0\n")
	}
	return b.String()
}

// wantParse reads a short text loosely, and asks whether what it read has this text.
func wantParse(s string) (f api.Formula, ok bool) {
	lines := strings.Split(s, "\n")
	count := 0
	if n, _ := fmt.Sscanf(lines[0], "p cnf %d %d", &f.Vars, &count); n != 2 || f.Vars < 0 || len(lines) < 2 {
		return api.Formula{}, false
	}
	for _, line := range lines[1 : len(lines)-1] {
		var clause []int
		for word := range strings.FieldsSeq(line) {
			literal := 0
			fmt.Sscan(word, &literal)
			if literal > f.Vars || -literal > f.Vars {
				return api.Formula{}, false
			}
			clause = append(clause, literal)
		}
		if len(clause) == 0 || slices.Index(clause, 0) != len(clause)-1 {
			return api.Formula{}, false
		}
		f.Clauses = append(f.Clauses, clause[:len(clause)-1])
	}
	if wantText(f) != s {
		return api.Formula{}, false
	}
	return f, true
}

// wantHolds looks at each clause as a set of the values that it asks for.
func wantHolds(f api.Formula, model []bool) bool {
	if len(model) != f.Vars+1 {
		return false
	}
	for _, clause := range f.Clauses {
		if !slices.ContainsFunc(clause, func(literal int) bool {
			return literal > 0 && model[literal] || literal < 0 && !model[-literal]
		}) {
			return false
		}
	}
	return true
}

// wantValues are what the gates of a net are.
func wantValues(n api.Net, ins []bool) (values []bool) {
	wire := func(w int) bool {
		if w%2 == 1 {
			return !values[w/2]
		}
		return values[w/2]
	}
	for _, g := range n.Gates {
		value := false
		if g.Op == 2 {
			value, ins = ins[0], ins[1:]
		} else if g.Op == 3 {
			value = wire(g.A) && wire(g.B)
		}
		values = append(values, value)
	}
	return values
}

func same(a, b api.Formula) bool {
	return a.Vars == b.Vars && slices.EqualFunc(a.Clauses, b.Clauses, slices.Equal[[]int])
}

func isNone(f api.Formula) bool { return f.Vars == 0 && len(f.Clauses) == 0 }
