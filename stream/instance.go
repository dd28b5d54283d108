package stream

import (
	"metronome/api"
)

// maker makes the instances of a program's nodes.
type maker struct {
	nodes  []api.Node
	places map[string]int
	forms  map[int]form
	weight int
}

func newMaker(p api.Program) *maker {
	m := &maker{nodes: p.Nodes, places: map[string]int{}, forms: allForms()}
	for i, n := range p.Nodes {
		if _, ok := m.places[n.Name]; !ok {
			m.places[n.Name] = i
		}
	}
	return m
}

// weigh is told of each expression that is made.
func (m *maker) weigh() {
	if m.weight++; m.weight > maxWeight {
		panic(fault{api.ErrLong})
	}
}

// instance is an instance of a node: the body of its items, with what is to be
// done at the end of its activations.
type instance struct {
	body
	*maker
	vars      map[string]*variable
	declared  int // how many variables
	ins, outs []*variable
	tick      int // of this activation, from 1 on
	late      []func()
}

// instance makes one. Each of its variables but the inputs is defined by an
// expression of its own, here or within a call; this is asked so that the
// weight bounds all that is made, even of a program that the checks had refused.
func (m *maker) instance(place int, around *life) *instance {
	n, ahead := m.nodes[place], m.weight
	in := &instance{maker: m, vars: map[string]*variable{}}
	in.body = newBody(in, around)
	in.ins, in.outs = in.declare(n.Ins), in.declare(n.Outs)
	in.declareLocals(n.Locals)
	in.items(n.Items)
	must(in.declared-len(n.Ins) <= m.weight-ahead)
	return in
}

// callee makes an instance of a node that this one calls with so many
// arguments.
func (b *body) callee(name string, args int) *instance {
	place, ok := b.in.places[name]
	must(ok && args == len(b.in.nodes[place].Ins))
	return b.in.instance(place, &b.life)
}

// kinds answers those of the inputs, element by element.
func (in *instance) kinds() []int {
	var all []int
	for _, v := range in.ins {
		for range width(v.Type) {
			all = append(all, v.Kind)
		}
	}
	return all
}

// putOff lets something be done at the end of this activation: what is kept for
// the next one may hang on the part that keeps it.
func (in *instance) putOff(do func()) { in.late = append(in.late, do) }

// catchUp does what was put off, and what is put off meanwhile.
func (in *instance) catchUp() {
	for i := 0; i < len(in.late); i++ {
		in.late[i]()
	}
	in.late = in.late[:0]
}

// activate answers the outputs' values in a list of its own; anew makes the
// instance a new one from this activation on.
func (in *instance) activate(values []int, anew bool) []int {
	in.begin(anew)
	in.tick++
	for _, v := range in.ins {
		n := width(v.Type)
		v.tell(values[:n])
		values = values[n:]
	}
	in.run()
	in.catchUp()
	in.end()
	outs := []int{}
	for _, v := range in.outs {
		outs = append(outs, v.value()...)
	}
	return outs
}
