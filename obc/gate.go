package obc

import (
	"metronome/api"
)

// test is a variable that is asked, or nothing.
type test struct {
	name  string
	asked bool
}

// gate is what must be so at a tick for statements to be done: what a variable
// is; of the gate that is always open none is asked.
type gate struct {
	test
	on bool
}

// gateOf answers the gate of a clock. A variable is 0 at the ticks at which it
// is not there: so one that is true tells by itself that the edges ahead of it
// hold, too; one that is false does so where there are none, and else its
// opposite is kept by another variable.
func (m *maker) gateOf(clock []api.Edge) gate {
	last := len(clock) - 1
	if last < 0 {
		return gate{}
	}
	edge := clock[last]
	if edge.On || last == 0 {
		return gate{test{edge.Name, true}, edge.On}
	}
	return m.opposite(edge.Name, clock[:last])
}

// opposite answers the gate that is open where a variable that is on that clock
// is there, and false.
func (m *maker) opposite(name string, clock []api.Edge) gate {
	g, ok := m.opposites[name]
	if !ok {
		g = gate{test{m.addVariable(api.Bool), true}, true}
		m.set(m.gateOf(clock), g.name, un(api.OpNot, ref(name)))
		m.opposites[name] = g
	}
	return g
}
