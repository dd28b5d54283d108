package types

import (
	"metronome/api"
)

// fault is a thing that is wrong, and its place; that of OK is none.
type fault struct {
	at   int
	what api.Errno
}

func (f fault) found() bool { return f.what != api.OK }

// asker knows what the names stand for at the place that is looked at.
type asker struct {
	rules []rule
	nodes map[string]api.Node
	vars  map[string]api.Type
}

func newAsker(p api.Program) *asker {
	a := &asker{rules(), map[string]api.Node{}, map[string]api.Type{}}
	for _, n := range p.Nodes {
		a.nodes[n.Name] = n
	}
	return a
}

// enter lets variables be there; of those with one name the last one counts.
func (a *asker) enter(lists ...[]api.Var) {
	for _, list := range lists {
		for _, v := range list {
			a.vars[v.Name] = v.T
		}
	}
}

func (a *asker) leave(lists ...[]api.Var) {
	for _, list := range lists {
		for _, v := range list {
			delete(a.vars, v.Name)
		}
	}
}

func (a *asker) of(e api.Exp) ([]api.Type, fault) {
	r := a.ruleOf(e.Form)
	kids, f := a.kidsOf(e, r)
	if f.found() {
		return nil, f
	}
	p := &part{asker: a, exp: e, kids: kids}
	types := r.types(p)
	if p.wrong != api.OK {
		return nil, fault{e.At, p.wrong}
	}
	return types, fault{}
}

// kidsOf answers a type for each kid that the rule looks at.
func (a *asker) kidsOf(e api.Exp, r rule) ([]api.Type, fault) {
	if len(e.Kids) < r.least {
		return nil, fault{e.At, api.ErrCount}
	}
	var kids []api.Type
	for _, kid := range e.Kids[:min(len(e.Kids), r.most)] {
		types, f := a.of(kid)
		if f.found() {
			return nil, f
		}
		if len(types) != 1 {
			return nil, fault{kid.At, api.ErrCount}
		}
		kids = append(kids, types[0])
	}
	return kids, fault{}
}
