package flat

import (
	"strconv"

	"metronome/api"
	"metronome/arrays"
)

// maxWeight is how many expressions may be inlined. It is that of a node that
// can be run; a program that calls itself, which the checks refuse, ends there.
const maxWeight = 20000

// maker makes the flat program of a node.
type maker struct {
	core      api.Core
	nodes     []api.Node
	places    map[string]int
	forms     map[int]form
	taken     map[string]int // how often a name was asked for
	constants map[atom]term
	weight    int
}

func newMaker(p api.Program) *maker {
	m := &maker{nodes: p.Nodes, places: map[string]int{}, forms: allForms(), taken: map[string]int{}, constants: map[atom]term{}}
	for i, n := range p.Nodes {
		if _, ok := m.places[n.Name]; !ok {
			m.places[n.Name] = i
		}
	}
	return m
}

// whole makes the instance that all others are within. It is active at each
// tick, and never begins anew.
func (m *maker) whole(n api.Node) {
	ins := m.declare(&m.core.Ins, n.Ins)
	outs := m.declare(&m.core.Outs, n.Outs)
	m.inline(n, ins, outs, m.moment(yes), newLife(no))
}

// name answers one that no variable has. Those of a program have no dot.
func (m *maker) name(like string) string {
	count := m.taken[like]
	m.taken[like]++
	if count > 0 {
		return like + "." + strconv.Itoa(count)
	}
	return like
}

// add lets a scalar variable be there. Each but the inputs has an equation: so
// there are no more of these.
func (m *maker) add(list *[]api.CVar, like string, kind int) term {
	c := &m.core
	within(len(c.Ins)+len(c.Outs)+len(c.Locals)+1, api.MaxEqs)
	v := api.CVar{Name: m.name(like), Kind: kind}
	*list = append(*list, v)
	return term{exp: api.CExp{Form: api.EVar, Name: v.Name}, kind: kind, parts: 1, deep: 1}
}

func (m *maker) local(like string, kind int) term { return m.add(&m.core.Locals, like, kind) }

// declare answers the terms of variables, one behind the other, element by
// element.
func (m *maker) declare(list *[]api.CVar, vars []api.Var) []term {
	var all []term
	for _, v := range vars {
		if v.T.Len == 0 {
			all = append(all, m.add(list, v.Name, v.T.Kind))
		}
		for i := range v.T.Len {
			all = append(all, m.add(list, arrays.Name(v.Name, i), v.T.Kind))
		}
	}
	return all
}

// width is how many scalars stand for a variable.
func width(t api.Type) int { return max(1, t.Len) }

func (m *maker) emit(q api.CEq) { m.core.Eqs = append(m.core.Eqs, q) }

func (m *maker) define(variable, value term) {
	m.emit(api.CEq{Form: api.CDef, Name: variable.exp.Name, E: value.exp})
}

// hold answers a term that may stand in several places.
func (m *maker) hold(t term) term {
	if t.isLiteral() || t.exp.Form == api.EVar {
		return t
	}
	held := m.local("part", t.kind)
	m.define(held, t)
	return held
}

// variable answers the name of a variable that tells the term. Literals are
// told by one each.
func (m *maker) variable(t term) string {
	if !t.isLiteral() {
		return m.hold(t).exp.Name
	}
	made, ok := m.constants[t.atom()]
	if !ok {
		made = m.local("constant", t.kind)
		m.define(made, t)
		m.constants[t.atom()] = made
	}
	return made.exp.Name
}
