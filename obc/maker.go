package obc

import (
	"slices"
	"strconv"

	"metronome/api"
)

// task is a statement, and what its gate's variable is where it is done.
type task struct {
	on bool
	do api.Stmt
}

// storing is what a cell becomes at the end of a tick, behind a gate.
type storing struct {
	gate
	cell string
	e    api.CExp
}

// maker makes step code of a flat program. Of its at most 2,000 variables each
// adds at most 6 statements and 2 names, and its clock, if that has two edges or
// more, another 2 statements and a name: that is within Check's bounds.
type maker struct {
	step      api.Step
	clocks    map[string][]api.Edge
	slots     slots               // the kinds of all names
	cells     map[string]api.Cell // of memories
	counters  map[int]api.Cell    // of ticks, by their periods
	opposites map[string]gate
	body      piles[test, task]
	where     map[string]int // the pile on which a name gets its value
	late      []storing
	fresh     func() string
}

func newMaker(c api.Core) *maker {
	m := &maker{
		clocks:    map[string][]api.Edge{},
		slots:     slots{},
		cells:     map[string]api.Cell{},
		counters:  map[int]api.Cell{},
		opposites: map[string]gate{},
		body:      piles[test, task]{last: map[test]int{}},
		where:     map[string]int{},
	}
	for _, v := range slices.Concat(c.Ins, c.Outs, c.Locals) {
		m.clocks[v.Name] = v.Clock
		m.slots[v.Name] = slot{kind: v.Kind}
	}
	m.fresh = m.namer()
	m.addMemories(c)
	m.step.Ins, m.step.Outs, m.step.Vars = m.variables(c.Ins), m.variables(c.Outs), m.variables(c.Locals)
	return m
}

// namer answers what tells names, each once, that no variable of the program
// has.
func (m *maker) namer() func() string {
	count := 0
	return func() string {
		for {
			name := "t" + strconv.Itoa(count)
			count++
			if _, ok := m.slots[name]; !ok {
				return name
			}
		}
	}
}

// addMemories adds a cell for each memory. It bears the memory's name and stands
// for it, unless the memory has to have a variable, too.
func (m *maker) addMemories(c api.Core) {
	asked := askedLate(c)
	for _, q := range c.Eqs {
		if q.Form != api.CMem {
			continue
		}
		name := q.Name
		if asked[name] > 0 {
			name = m.fresh()
		}
		m.cells[q.Name] = m.addCell(api.Cell{Name: name, Kind: m.slots[q.Name].kind, Init: q.Init})
	}
}

// askedLate counts how often a variable may be asked at the end of a tick, when
// cells get their next values: as an output, by clocks, by memories other than
// itself.
func askedLate(c api.Core) map[string]int {
	asked := map[string]int{}
	for _, v := range c.Outs {
		asked[v.Name]++
	}
	for _, v := range c.Locals {
		for _, edge := range v.Clock {
			asked[edge.Name]++
		}
	}
	for _, q := range c.Eqs {
		if q.Form == api.CMem && q.Next != q.Name {
			asked[q.Next]++
		}
	}
	return asked
}

func (m *maker) addCell(c api.Cell) api.Cell {
	m.step.Cells = append(m.step.Cells, c)
	m.slots[c.Name] = slot{kind: c.Kind}
	return c
}

// addVariable answers the new variable's name.
func (m *maker) addVariable(kind int) string {
	v := api.CVar{Name: m.fresh(), Kind: kind}
	m.step.Vars = append(m.step.Vars, v)
	m.slots[v.Name] = slot{kind: kind}
	return v.Name
}

// variables answers those of a list for which no cell stands.
func (m *maker) variables(list []api.CVar) []api.CVar {
	var all []api.CVar
	for _, v := range list {
		if cell, ok := m.cells[v.Name]; !ok || cell.Name != v.Name {
			all = append(all, api.CVar{Name: v.Name, Kind: v.Kind})
		}
	}
	return all
}

func (m *maker) set(g gate, name string, e api.CExp) {
	m.place(g, name, api.Stmt{Form: api.SSet, Name: name, E: e})
}

// place puts a statement by which a name gets its value on a pile that is none
// of those ahead of where the names in its expression get theirs.
func (m *maker) place(g gate, name string, s api.Stmt) {
	least := 0
	for e := range parts(s.E) {
		if e.Form == api.EVar {
			least = max(least, m.where[e.Name])
		}
	}
	m.where[name] = gather(&m.body, g.test, least, task{g.on, s})
}

// finish stores what is late behind all else, and makes the body of the piles.
// No store asks for what another one changes: so all that are behind one gate
// may come together.
func (m *maker) finish() {
	least := len(m.body.list) - 1
	for _, s := range m.late {
		gather(&m.body, s.test, least, task{s.on, api.Stmt{Form: api.SStore, Name: s.cell, E: s.e}})
	}
	for _, p := range m.body.list {
		m.step.Body = append(m.step.Body, gated(p)...)
	}
}

// gated answers the statements of a pile, behind its gate.
func gated(p pile[test, task]) []api.Stmt {
	var yes, no []api.Stmt
	for _, t := range p.items {
		if t.on || !p.key.asked {
			yes = append(yes, t.do)
		} else {
			no = append(no, t.do)
		}
	}
	if !p.key.asked {
		return yes
	}
	return []api.Stmt{{Form: api.SIf, E: ref(p.key.name), Then: yes, Else: no}}
}
