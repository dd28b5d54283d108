package cnf_test

import (
	"math"
	"math/rand"
	"slices"

	"metronome/api"
)

// maker makes formulas, models and nets, the same of the same seed.
type maker struct{ r *rand.Rand }

func newMaker(seed int) *maker { return &maker{rand.New(rand.NewSource(int64(seed)))} }

func pick[T any](m *maker, list ...T) T { return list[m.r.Intn(len(list))] }

// formula is one that Check takes.
func (m *maker) formula() api.Formula {
	f := api.Formula{Vars: pick(m, 0, 1, 2, 3, 5, 12, 300)}
	for range m.r.Intn(7) {
		var clause []int
		for range m.r.Intn(6) {
			if f.Vars > 0 {
				clause = append(clause, pick(m, 1, -1)*(1+m.r.Intn(f.Vars)))
			}
		}
		f.Clauses = append(f.Clauses, clause)
	}
	return f
}

// spoil changes one literal or the number of variables; now and then the formula is right nevertheless.
func (m *maker) spoil(f *api.Formula) {
	number := pick(m, 0, 1, -1, f.Vars, -f.Vars, f.Vars+1, -f.Vars-1, math.MaxInt, math.MinInt)
	places := []*int{&f.Vars}
	for _, clause := range f.Clauses {
		for i := range clause {
			places = append(places, &clause[i])
		}
	}
	*places[m.r.Intn(len(places))] = number
}

// model is one of the formula's variables, or has one value too much or too few.
func (m *maker) model(f api.Formula) []bool {
	model := make([]bool, 0, 301)
	for range f.Vars + 1 + pick(m, 0, 0, 0, 0, 0, 1, -1) {
		model = append(model, m.r.Intn(2) == 0)
	}
	return model
}

func (m *maker) net() (n api.Net) {
	for at := range m.r.Intn(12) {
		switch choice := m.r.Intn(8); {
		case choice == 0:
			n.Gates = append(n.Gates, zero())
		case choice < 3 || at == 0:
			n.Gates = append(n.Gates, input())
		default:
			n.Gates = append(n.Gates, and(m.r.Intn(2*at), m.r.Intn(2*at)))
		}
	}
	return n
}

// wires are of the net's gates.
func (m *maker) wires(n api.Net) (wires []int) {
	for range m.r.Intn(4) {
		if len(n.Gates) > 0 {
			wires = append(wires, m.r.Intn(2*len(n.Gates)))
		}
	}
	return wires
}

// garble changes a text at one place, or a few.
func (m *maker) garble(s string) string {
	text := []byte(s)
	for range 1 + m.r.Intn(2) {
		at, end := m.r.Intn(len(text)+1), m.r.Intn(len(text)+1)
		switch bits := []byte(pick(m, "0", "1", " ", "\n", "-", "9", "p", "+", "\r", "-0", "00", " 0\n", "0\n", "\t", "\x00", "12", "_")); m.r.Intn(4) {
		case 0:
			text = slices.Insert(text, at, bits...)
		case 1:
			text = slices.Replace(text, at, min(at+1, len(text)), bits...)
		case 2:
			text = slices.Delete(text, at, min(at+1, len(text)))
		default:
			text = slices.Delete(text, min(at, end), min(max(at, end), min(at, end)+4))
		}
	}
	return string(text)
}

func zero() api.Gate        { return api.Gate{Op: 1} }
func input() api.Gate       { return api.Gate{Op: 2} }
func and(a, b int) api.Gate { return api.Gate{Op: 3, A: a, B: b} }

func net(gates ...api.Gate) api.Net { return api.Net{Gates: gates} }
