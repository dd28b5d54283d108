package sat_test

import (
	"math/rand"
	"slices"

	"metronome/api"
	"metronome/cnf"
	"metronome/gates"
)

// maker makes formulas, the same of the same seed.
type maker struct{ r *rand.Rand }

func newMaker(seed int) *maker { return &maker{rand.New(rand.NewSource(int64(seed)))} }

func pick[T any](m *maker, list ...T) T { return list[m.r.Intn(len(list))] }

func (m *maker) literal(vars int) int { return pick(m, 1, -1) * (1 + m.r.Intn(vars)) }

// clause has as many literals, now and then the same one again, or its opposite.
func (m *maker) clause(vars, width int) (clause []int) {
	for range width {
		clause = append(clause, m.literal(vars))
	}
	if width > 0 && m.r.Intn(8) == 0 {
		clause = append(clause, pick(m, clause[0], clause[0], -clause[0]))
	}
	return clause
}

// formula has few variables; whether it has a model is as likely as not.
func (m *maker) formula() api.Formula {
	f := api.Formula{Vars: 1 + m.r.Intn(14)}
	width := pick(m, 2, 3, 3, 4)
	for range m.r.Intn(1 + f.Vars*2*width) {
		w := max(1, width-m.r.Intn(3))
		if w > 1 || m.r.Intn(6) == 0 {
			f.Clauses = append(f.Clauses, m.clause(f.Vars, w))
		}
	}
	return f
}

// even has clauses of as many different variables.
func (m *maker) even(vars, clauses, width int) api.Formula {
	f := api.Formula{Vars: vars}
	for range clauses {
		var clause []int
		for len(clause) < width {
			if literal := m.literal(vars); !slices.Contains(clause, literal) && !slices.Contains(clause, -literal) {
				clause = append(clause, literal)
			}
		}
		f.Clauses = append(f.Clauses, clause)
	}
	return f
}

// parts says of each part of all values that it is not so: the parts are cut in two again and again, each by some variable.
func (m *maker) parts(vars, count int) api.Formula {
	f := api.Formula{Vars: vars, Clauses: [][]int{{}}}
	for len(f.Clauses) < count {
		at := m.r.Intn(len(f.Clauses))
		part := f.Clauses[at]
		if len(part) == vars {
			continue
		}
		literal := m.literal(vars)
		for slices.Contains(part, literal) || slices.Contains(part, -literal) {
			literal = m.literal(vars)
		}
		f.Clauses[at] = append(slices.Clone(part), literal)
		f.Clauses = append(f.Clauses, append(slices.Clone(part), -literal))
	}
	m.mix(f)
	return f
}

func (m *maker) mix(f api.Formula) {
	m.r.Shuffle(len(f.Clauses), func(a, b int) { f.Clauses[a], f.Clauses[b] = f.Clauses[b], f.Clauses[a] })
	for _, clause := range f.Clauses {
		m.r.Shuffle(len(clause), func(a, b int) { clause[a], clause[b] = clause[b], clause[a] })
	}
}

// pairs says of all values that they are not so, two that differ in one variable by one clause: which one, hangs on the others.
func (m *maker) pairs(vars int) api.Formula {
	f := api.Formula{Vars: vars}
	free := make([]bool, 1<<vars)
	for _, values := range m.r.Perm(1 << vars) {
		if free[values] {
			continue
		}
		at := vars
		for _, v := range m.r.Perm(vars) {
			if !free[values^1<<v] {
				at = v
				break
			}
		}
		free[values] = true
		if at < vars {
			free[values^1<<at] = true
		}
		var clause []int
		for v := range vars {
			if v != at {
				clause = append(clause, (v+1)*(2*(values>>v&1)-1))
			}
		}
		f.Clauses = append(f.Clauses, clause)
	}
	return f
}

// holes says that each of some birds has one hole of one fewer, and that no two have the same one.
func holes(birds int) (f api.Formula) {
	in := func(bird, hole int) int { return bird*(birds-1) + hole + 1 }
	f.Vars = birds * (birds - 1)
	for a := range birds {
		var clause []int
		for hole := range birds - 1 {
			clause = append(clause, in(a, hole))
			for b := range a {
				f.Clauses = append(f.Clauses, []int{-in(a, hole), -in(b, hole)})
			}
		}
		f.Clauses = append(f.Clauses, clause)
	}
	return f
}

// board lays nets into one.
type board struct {
	net  api.Net
	kind int
}

// value is as many inputs as the kind has bits.
func (b *board) value(bits int) (wires []int) {
	for range bits {
		wires = append(wires, 2*len(b.net.Gates))
		b.net.Gates = append(b.net.Gates, api.Gate{Op: 2})
	}
	return wires
}

func (b *board) op(op int, operands ...[]int) (wires []int) {
	n, ends, _ := gates.Op(op, b.kind, len(operands) == 2)
	ins := slices.Concat(operands...)
	places := make([]int, len(n.Gates))
	moved := func(wire int) int { return places[wire/2] ^ wire&1 }
	for at, g := range n.Gates {
		if g.Op == 2 {
			places[at], ins = ins[0], ins[1:]
			continue
		}
		places[at] = 2 * len(b.net.Gates)
		if g.Op == 3 {
			g.A, g.B = moved(g.A), moved(g.B)
		}
		b.net.Gates = append(b.net.Gates, g)
	}
	for _, end := range ends {
		wires = append(wires, moved(end))
	}
	return wires
}

// differ is the formula of two values that are not the same.
func (b *board) differ(x, y []int) api.Formula {
	wires := b.op(api.OpNe, x, y)
	f, _ := cnf.Of(b.net, wires)
	return f
}

func formula(vars int, clauses ...[]int) api.Formula {
	return api.Formula{Vars: vars, Clauses: clauses}
}
