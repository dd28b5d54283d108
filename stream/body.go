package stream

import (
	"metronome/api"
)

// duty is a part that is asked for at each activation at which it is there,
// since what it remembers moves even if nobody needs its value.
type duty struct {
	there func() bool
	value func() []int
}

// body is a list of items, a node's or a state's, whose memories last as long.
type body struct {
	life
	in       *instance
	duties   []duty
	automata []*automaton
	defines  map[string]func() []int // the values of those variables that are declared outside
}

func newBody(in *instance, around *life) body {
	return body{life: life{around: around}, in: in, defines: map[string]func() []int{}}
}

func (b *body) run() {
	for _, d := range b.duties {
		if d.there() {
			d.value()
		}
	}
	for _, a := range b.automata {
		a.active().run()
	}
}

func (b *body) end() {
	for _, a := range b.automata {
		a.end()
	}
}

// declare lets variables be there that are on the base, whatever clock they
// have: inputs and outputs have none.
func (b *body) declare(vars []api.Var) []*variable {
	var all []*variable
	for _, v := range vars {
		made := &variable{cell: cell{in: b.in}, Type: v.T, home: b}
		b.in.vars[v.Name] = made
		all = append(all, made)
	}
	b.in.declared += len(vars)
	return all
}

// declareLocals lets all be there ahead of their clocks: these may name one
// that stands further on.
func (b *body) declareLocals(locals []api.Var) {
	for i, v := range b.declare(locals) {
		for _, e := range locals[i].Clock {
			v.clock = append(v.clock, edge{b.find(e.Name), e.On})
		}
	}
}

func (b *body) find(name string) *variable {
	v, ok := b.in.vars[name]
	must(ok)
	return v
}

func (b *body) items(list []api.Item) {
	for _, i := range list {
		if len(i.States) > 0 {
			b.automaton(i.States)
		} else {
			b.equation(i)
		}
	}
}

func (b *body) equation(i api.Item) {
	value := b.part(i.E).value
	there := func() bool { return true }
	from := 0
	for n, name := range i.Names {
		v, at := b.find(name), from
		if n == 0 {
			there = v.there
		}
		from += width(v.Type)
		to := from
		b.define(name, func() []int { return value()[at:to] })
	}
	b.duties = append(b.duties, duty{there, value})
}

func (b *body) define(name string, value func() []int) {
	if v := b.find(name); v.home == b {
		v.work = value
	} else {
		b.defines[name] = value
	}
}
