package drat_test

import (
	"math"
	"math/rand"
	"slices"

	"metronome/api"
)

// maker makes formulas and proofs, the same of the same seed.
type maker struct{ r *rand.Rand }

func newMaker(seed int) *maker { return &maker{rand.New(rand.NewSource(int64(seed)))} }

func pick[T any](m *maker, list ...T) T { return list[m.r.Intn(len(list))] }

func (m *maker) literal(vars int) int { return pick(m, 1, -1) * (1 + m.r.Intn(vars)) }

// clause has up to some literals, now and then the same one again, or its opposite.
func (m *maker) clause(vars, most int) (clause []int) {
	for range m.r.Intn(most + 1) {
		clause = append(clause, m.literal(vars))
	}
	if len(clause) > 0 && m.r.Intn(6) == 0 {
		clause = append(clause, pick(m, clause[0], clause[0], -clause[0]))
	}
	return clause
}

func (m *maker) formula() api.Formula {
	f := api.Formula{Vars: pick(m, 1, 2, 3, 4, 6, 9, 14)}
	most := pick(m, 2, 3, 3, 5)
	for range m.r.Intn(4 * f.Vars) {
		clause := m.clause(f.Vars, most)
		if len(clause) > 1 || m.r.Intn(5) == 0 && (len(clause) == 1 || m.r.Intn(9) == 0) {
			f.Clauses = append(f.Clauses, clause)
		}
	}
	return f
}

// proof is lines of which most are right, as far as any are found by trying.
func (m *maker) proof(f api.Formula) (proof []api.Line) {
	j := judgeOf(f)
	stop := m.r.Intn(60)
	for range stop {
		line, e := api.Line{}, api.ErrProof
		tries := 25
		if m.r.Intn(12) == 0 {
			tries = 1
		}
		for ; e != api.OK && tries > 0; tries-- {
			line = m.line(f, proof)
			kept := *j
			kept.list = slices.Clone(j.list)
			if e = kept.take(line); e == api.OK {
				*j = kept
			}
		}
		proof = append(proof, line)
		if e != api.OK || j.empty && m.r.Intn(3) > 0 {
			break
		}
		j.empty = false
	}
	return proof
}

// line is any, or takes away a clause that was there, its literals in another order.
func (m *maker) line(f api.Formula, proof []api.Line) api.Line {
	gone := m.r.Intn(3) == 0
	clause := m.clause(f.Vars, 3)
	if m.r.Intn(3) == 0 {
		clause = m.clause(f.Vars, 1)
	}
	there := slices.Clone(f.Clauses)
	for _, line := range proof {
		there = append(there, line.Clause)
	}
	if len(there) > 0 && m.r.Intn(8) > 0 == gone {
		clause = slices.Clone(pick(m, there...))
		m.r.Shuffle(len(clause), func(a, b int) { clause[a], clause[b] = clause[b], clause[a] })
		if len(clause) > 0 && m.r.Intn(3) == 0 {
			clause = append(clause, clause[0])
		}
	}
	if len(clause) == 0 && m.r.Intn(4) > 0 {
		return m.line(f, proof)
	}
	return api.Line{Gone: gone, Clause: clause}
}

// spoil lets one literal be none.
func (m *maker) spoil(f api.Formula, clauses ...[]int) {
	var places []*int
	for _, clause := range clauses {
		for i := range clause {
			places = append(places, &clause[i])
		}
	}
	if len(places) > 0 {
		*places[m.r.Intn(len(places))] = pick(m, 0, f.Vars+1, -f.Vars-1, math.MaxInt, math.MinInt, -math.MaxInt)
	}
}

// split is the lines of a proof that tries all values, one variable behind the other, till a clause is false: of each such try the opposite.
func split(f api.Formula, tried []int) (proof []api.Line) {
	list := judgeOf(f).list
	var opposite []int
	for _, literal := range tried {
		opposite = append(opposite, -literal)
	}
	if !follows(list, setOf(opposite)) {
		for _, literal := range []int{len(tried) + 1, -len(tried) - 1} {
			proof = append(proof, split(f, append(slices.Clone(tried), literal))...)
		}
	}
	return append(proof, add(opposite...))
}

func add(literals ...int) api.Line  { return api.Line{Clause: literals} }
func gone(literals ...int) api.Line { return api.Line{Gone: true, Clause: literals} }

func formula(vars int, clauses ...[]int) api.Formula {
	return api.Formula{Vars: vars, Clauses: clauses}
}
