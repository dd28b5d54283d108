package arrays

import (
	"metronome/api"
)

// expander takes the nodes of a program apart. It knows what the names stand
// for at the place that is looked at.
type expander struct {
	forms map[int]form
	nodes map[string]api.Node
	vars  map[string]api.Var
	taken set   // names that no new local may have
	count int   // of the names that were tried for new locals
	list  *body // what the list of items that is looked at has become
}

// body is what a list of items has become, with the new locals that hold parts
// of them.
type body struct {
	locals []api.Var
	items  []api.Item
}

func newExpander(p api.Program) *expander {
	x := &expander{nodes: map[string]api.Node{}}
	x.forms = x.byForm()
	for _, n := range p.Nodes {
		x.nodes[n.Name] = n
	}
	return x
}

// enter lets variables be there. Those of a state stay when it is left: the
// names of a program are right, so that nobody asks for them.
func (x *expander) enter(lists ...[]api.Var) {
	for _, list := range lists {
		for _, v := range list {
			x.vars[v.Name] = v
		}
	}
}

func (x *expander) node(n api.Node) api.Node {
	ins, outs := onBase(n.Ins), onBase(n.Outs)
	x.vars, x.taken, x.count = map[string]api.Var{}, taken(n), 0
	x.enter(ins, outs, n.Locals)
	made := x.items(n.Items)
	return api.Node{
		Name: n.Name, Ins: scalars(ins), Outs: scalars(outs), Locals: append(scalars(n.Locals), made.locals...),
		Items: made.items, At: n.At,
	}
}

func (x *expander) items(items []api.Item) *body {
	around := x.list
	defer func() { x.list = around }()
	made := &body{}
	x.list = made
	for _, i := range items {
		x.item(i)
	}
	return made
}

func (x *expander) item(i api.Item) {
	if len(i.States) > 0 {
		x.automaton(i)
		return
	}
	var own []string
	on := place{}
	for n, name := range i.Names {
		v := x.vars[name]
		own = append(own, namesOf(v)...)
		if n == 0 {
			on.clock = v.Clock
		}
	}
	if i.E.Form == api.ECall || i.E.Form == api.EReset {
		x.define(i.At, x.applied(i.E, on).at(0), own...)
		return
	}
	value := x.exp(i.E, on)
	for n, name := range own {
		x.define(i.At, value.at(n), name)
	}
}

// define adds an equation to the list.
func (x *expander) define(at int, e api.Exp, names ...string) {
	x.list.items = append(x.list.items, api.Item{Names: names, E: e, At: at})
}

func (x *expander) automaton(i api.Item) {
	made := api.Item{At: i.At}
	for _, s := range i.States {
		made.States = append(made.States, x.state(s))
	}
	x.list.items = append(x.list.items, made)
}

func (x *expander) state(s api.State) api.State {
	x.enter(s.Locals)
	made := x.items(s.Items)
	return api.State{
		Name: s.Name, Unless: x.transitions(s.Unless), Until: x.transitions(s.Until),
		Locals: append(scalars(s.Locals), made.locals...), Items: made.items, At: s.At,
	}
}

// transitions need no new locals: a condition calls no node, so that of each of
// its arrays one element alone is asked for.
func (x *expander) transitions(list []api.Trans) []api.Trans {
	var all []api.Trans
	for _, t := range list {
		all = append(all, api.Trans{Cond: x.exp(t.Cond, place{}).at(0), To: t.To, Cont: t.Cont, At: t.At})
	}
	return all
}
