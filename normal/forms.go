package normal

import (
	"metronome/api"
	"metronome/bv"
)

// form splits a part of one form that is on a clock, and answers its kind.
type form func(e api.CExp, on []api.Edge) int

func (m *maker) byForm() map[int]form {
	return map[int]form{
		api.ELit:   m.literal,
		api.EVar:   m.variable,
		api.EUn:    m.unary,
		api.EBin:   m.binary,
		api.EIf:    m.choice,
		api.ECast:  m.cast,
		api.EWhen:  m.sampled,
		api.EMerge: m.merged,
	}
}

func (m *maker) literal(e api.CExp, on []api.Edge) int { return e.Kind }

func (m *maker) variable(e api.CExp, on []api.Edge) int { return m.vars[e.Name].Kind }

func (m *maker) unary(e api.CExp, on []api.Edge) int { return m.name(&e.Kids[0], on) }

func (m *maker) binary(e api.CExp, on []api.Edge) int {
	of := m.name(&e.Kids[0], on)
	m.name(&e.Kids[1], on)
	_, kind, _ := bv.Bin(e.Sub, of, 0, 0)
	return kind
}

func (m *maker) choice(e api.CExp, on []api.Edge) int {
	m.name(&e.Kids[0], on)
	m.name(&e.Kids[1], on)
	return m.name(&e.Kids[2], on)
}

func (m *maker) cast(e api.CExp, on []api.Edge) int {
	m.name(&e.Kids[0], on)
	return e.Kind
}

// sampled: the kid is there at more ticks than the part itself.
func (m *maker) sampled(e api.CExp, on []api.Edge) int {
	return m.name(&e.Kids[0], m.vars[e.Name].Clock)
}

// merged: just one of the kids is there at a tick.
func (m *maker) merged(e api.CExp, on []api.Edge) int {
	at := m.vars[e.Name].Clock
	m.name(&e.Kids[0], joined(at, api.Edge{Name: e.Name, On: true}))
	return m.name(&e.Kids[1], joined(at, api.Edge{Name: e.Name}))
}
