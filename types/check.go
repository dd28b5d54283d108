package types

import (
	"slices"

	"metronome/api"
)

// inOrder tries checks, up to the first one that finds a fault.
func inOrder(checks ...func() fault) fault {
	for _, check := range checks {
		if f := check(); f.found() {
			return f
		}
	}
	return fault{}
}

func (a *asker) checkNode(n api.Node) fault {
	a.enter(n.Ins, n.Outs, n.Locals)
	defer a.leave(n.Ins, n.Outs, n.Locals)
	return inOrder(
		func() fault { return sizes(slices.Concat(n.Ins, n.Outs, n.Locals)) },
		func() fault { return a.clocks(n.Locals) },
		func() fault { return a.items(n.Items) },
	)
}

// state lets the locals be there for the unless conditions, too: these name
// none of them.
func (a *asker) state(s api.State) fault {
	a.enter(s.Locals)
	defer a.leave(s.Locals)
	return inOrder(
		func() fault { return sizes(s.Locals) },
		func() fault { return a.clocks(s.Locals) },
		func() fault { return a.conditions(s.Unless) },
		func() fault { return a.items(s.Items) },
		func() fault { return a.conditions(s.Until) },
	)
}

func sizes(vars []api.Var) fault {
	for _, v := range vars {
		if v.T.Len > api.MaxSize {
			return fault{v.At, api.ErrCount}
		}
	}
	return fault{}
}

func (a *asker) clocks(locals []api.Var) fault {
	for _, v := range locals {
		for _, edge := range v.Clock {
			if !isBool(a.vars[edge.Name]) {
				return fault{v.At, api.ErrType}
			}
		}
	}
	return fault{}
}

func (a *asker) conditions(list []api.Trans) fault {
	for _, t := range list {
		types, f := a.of(t.Cond)
		if f.found() {
			return f
		}
		if !slices.Equal(types, one(scalar(api.Bool))) {
			return fault{t.At, api.ErrType}
		}
	}
	return fault{}
}

func (a *asker) items(list []api.Item) fault {
	for _, i := range list {
		if f := a.item(i); f.found() {
			return f
		}
	}
	return fault{}
}

func (a *asker) item(i api.Item) fault {
	if len(i.States) == 0 {
		return a.equation(i)
	}
	for _, s := range i.States {
		if f := a.state(s); f.found() {
			return f
		}
	}
	return fault{}
}

func (a *asker) equation(i api.Item) fault {
	types, f := a.of(i.E)
	if f.found() {
		return f
	}
	if len(types) != len(i.Names) {
		return fault{i.At, api.ErrCount}
	}
	for n, name := range i.Names {
		if types[n] != a.vars[name] {
			return fault{i.At, api.ErrType}
		}
	}
	return fault{}
}
