package obc

import (
	"metronome/api"
)

// enter is told of one equation after the other, each behind those that it hangs
// on.
func (m *maker) enter(q api.CEq) {
	g := m.gateOf(m.clocks[q.Name])
	switch q.Form {
	case api.CDef:
		turn := m.turner(g)
		m.set(g, q.Name, turn(q.E).CExp)
	case api.CMem:
		m.remember(g, q)
	case api.CTick:
		m.set(g, q.Name, bin(api.OpEq, ref(m.counter(q.Period)), lit(counterKind, q.Offset)))
	}
}

// remember lets a memory's cell begin anew where it is reset, ahead of all that
// ask for it.
func (m *maker) remember(g gate, q api.CEq) {
	cell := m.cells[q.Name]
	if q.Reset != "" {
		anew := api.Stmt{Form: api.SStore, Name: cell.Name, E: lit(cell.Kind, cell.Init)}
		m.place(g, cell.Name, api.Stmt{Form: api.SIf, E: ref(q.Reset), Then: []api.Stmt{anew}})
	}
	if cell.Name != q.Name {
		m.set(g, q.Name, ref(cell.Name))
	}
	m.late = append(m.late, storing{g, cell.Name, ref(q.Next)})
}

// counterKind is a kind that has all numbers up to MaxPeriod.
const counterKind = api.U8

// counter answers the cell that counts the ticks modulo a period.
func (m *maker) counter(period int) string {
	c, ok := m.counters[period]
	if !ok {
		c = m.addCell(api.Cell{Name: m.fresh(), Kind: counterKind})
		m.counters[period] = c
		next := bin(api.OpAdd, ref(c.Name), lit(counterKind, 1))
		m.late = append(m.late, storing{gate{}, c.Name, bin(api.OpMod, next, lit(counterKind, period))})
	}
	return c.Name
}
