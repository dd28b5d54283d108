package flat

import (
	"metronome/api"
)

// variable is what a name stands for: terms without kids, element by element.
type variable struct {
	terms []term
	clock []api.Edge
}

// body is a list of items, a node's or a state's.
type body struct {
	*maker
	*life
	at    *moment
	own   map[string]variable
	find  func(name string) variable
	given map[string][]term // the values of those variables that are declared outside
	names []string          // of these, as they stand
}

// body makes one whose names are renamed as its own variables say, or else as
// those around it are.
func (m *maker) body(at *moment, l *life, around func(string) variable) *body {
	own := map[string]variable{}
	find := func(name string) variable {
		if v, ok := own[name]; ok {
			return v
		}
		return around(name)
	}
	return &body{maker: m, life: l, at: at, own: own, find: find, given: map[string][]term{}}
}

// nothing is what stands around a node.
func nothing(string) variable {
	must(false)
	return variable{}
}

// inline lets the equations of an instance be there.
func (m *maker) inline(n api.Node, ins, outs []term, at *moment, l *life) {
	b := m.body(at, l, nothing)
	b.bind(n.Ins, ins, false)
	b.bind(n.Outs, outs, false)
	b.locals(n.Locals)
	b.items(n.Items)
}

// bind lets variables stand for terms. Inputs and outputs have no clock,
// whatever they say.
func (b *body) bind(vars []api.Var, terms []term, clocked bool) {
	for _, v := range vars {
		n := width(v.T)
		bound := variable{terms: terms[:n:n]}
		if clocked {
			bound.clock = v.Clock
		}
		b.own[v.Name] = bound
		terms = terms[n:]
	}
}

func (b *body) locals(vars []api.Var) {
	b.bind(vars, b.declare(&b.core.Locals, vars), true)
}

// when answers the moment of a clock.
func (b *body) when(clock []api.Edge) *moment {
	at := b.at
	for _, e := range clock {
		at = b.behind(at, b.find(e.Name).terms[0], e.On)
	}
	return at
}

func (b *body) items(list []api.Item) {
	for _, i := range list {
		if len(i.States) > 0 {
			b.automaton(i.States)
		} else {
			b.equation(i)
		}
	}
}

func (b *body) equation(i api.Item) {
	at := b.at
	if len(i.Names) > 0 {
		at = b.when(b.find(i.Names[0]).clock)
	}
	values := b.values(i.E, at)
	for _, name := range i.Names {
		n := len(b.find(name).terms)
		b.give(name, values[:n:n])
		values = values[n:]
	}
}

// give lets a variable have its value, or, if it is none of this body's, what
// is around the body.
func (b *body) give(name string, values []term) {
	v, ok := b.own[name]
	if !ok {
		b.given[name] = values
		b.names = append(b.names, name)
		return
	}
	for i, t := range values {
		b.define(v.terms[i], t)
	}
}
