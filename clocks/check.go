package clocks

import (
	"metronome/api"
	"metronome/names"
)

// inOrder tries checks, up to the first one that finds a fault.
func inOrder(checks ...func() fault) fault {
	for _, check := range checks {
		if f := check(); f.found() {
			return f
		}
	}
	return fault{}
}

func (a *asker) checkNode(n api.Node) fault {
	a.enter(n.Ins, n.Outs)
	a.enterLocals(n.Locals)
	defer a.leave(n.Ins, n.Outs, n.Locals)
	return inOrder(
		func() fault { return a.locals(n.Locals) },
		func() fault { return a.items(n.Items) },
	)
}

// state lets the locals be there for the unless conditions, too: these name
// none of them.
func (a *asker) state(s api.State) fault {
	a.states++
	a.enterLocals(s.Locals)
	defer func() {
		a.leave(s.Locals)
		a.states--
	}()
	return inOrder(
		func() fault { return a.locals(s.Locals) },
		func() fault { return a.transitions(s.Unless) },
		func() fault { return a.items(s.Items) },
		func() fault { return a.transitions(s.Until) },
	)
}

func (a *asker) locals(list []api.Var) fault {
	for _, v := range list {
		if f := unless(a.isClock(v.Clock), v.At); f.found() {
			return f
		}
	}
	return fault{}
}

// isClock tells whether each edge's variable is on the clock that the edges
// ahead of it make, and may be named here.
func (a *asker) isClock(edges []api.Edge) bool {
	for i, edge := range edges {
		ahead := clock{edges: edges[:i]}
		if !together(a.clockOf(edge.Name), ahead) || !a.mayName([]string{edge.Name}) {
			return false
		}
	}
	return true
}

// transitions: what a condition names is asked ahead of its clocks, since a
// state may not use what is not on the base even where the clocks are right.
func (a *asker) transitions(list []api.Trans) fault {
	for _, t := range list {
		c, f := a.asked(t.Cond, t.At)
		if f.found() {
			return f
		}
		if f := unless(together(c, clock{}), t.At); f.found() {
			return f
		}
	}
	return fault{}
}

// asked answers the clock of an equation's or a transition's expression; at is
// the place of that.
func (a *asker) asked(e api.Exp, at int) (clock, fault) {
	if f := unless(a.mayName(names.Uses(e)), at); f.found() {
		return clock{}, f
	}
	return a.of(e)
}

func (a *asker) items(list []api.Item) fault {
	for _, i := range list {
		if f := a.item(i); f.found() {
			return f
		}
	}
	return fault{}
}

func (a *asker) item(i api.Item) fault {
	if len(i.States) == 0 {
		return a.equation(i)
	}
	for _, s := range i.States {
		if f := a.state(s); f.found() {
			return f
		}
	}
	return fault{}
}

// equation: names that have one clock in common, and that of the expression,
// are all on it, since no variable's is free.
func (a *asker) equation(i api.Item) fault {
	c, f := a.asked(i.E, i.At)
	if f.found() {
		return f
	}
	defined, ok := common(i.Names, a.clockOf)
	return unless(ok && together(defined, c) && a.mayName(i.Names), i.At)
}
