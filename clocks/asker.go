package clocks

import (
	"metronome/api"
)

// fault is a thing that is wrong, and its place; that of OK is none.
type fault struct {
	at   int
	what api.Errno
}

func (f fault) found() bool { return f.what != api.OK }

// unless answers a fault at a place where something does not hold.
func unless(holds bool, at int) fault {
	if holds {
		return fault{}
	}
	return fault{at, api.ErrClock}
}

// variable is one that is there: its clock, and how many states are around its
// declaration.
type variable struct {
	clock  clock
	states int
}

// asker knows the variables that are there at the place that is looked at, and
// how many states are around it.
type asker struct {
	rules  []rule
	vars   map[string]variable
	states int
}

func newAsker() *asker {
	a := &asker{vars: map[string]variable{}}
	a.rules = a.allRules()
	return a
}

// enter lets variables be there that are on the base, whatever clock they
// have: inputs and outputs have none.
func (a *asker) enter(lists ...[]api.Var) {
	for _, list := range lists {
		for _, v := range list {
			a.vars[v.Name] = variable{clock{}, a.states}
		}
	}
}

func (a *asker) enterLocals(locals []api.Var) {
	for _, v := range locals {
		a.vars[v.Name] = variable{clock{edges: v.Clock}, a.states}
	}
}

func (a *asker) leave(lists ...[]api.Var) {
	for _, list := range lists {
		for _, v := range list {
			delete(a.vars, v.Name)
		}
	}
}

func (a *asker) clockOf(name string) clock { return a.vars[name].clock }

// mayName tells whether names may stand here: what is from outside of the state
// around must be on the base.
func (a *asker) mayName(names []string) bool {
	for _, name := range names {
		if v := a.vars[name]; v.states < a.states && !v.clock.isBase() {
			return false
		}
	}
	return true
}
