package cause

import (
	"iter"

	"metronome/api"
)

// knot is a variable, or an item: a variable hangs on the items that define it,
// an item on what it reads and on the one around it. So what the conditions of
// an automaton read is noted once, not for each variable within it.
type knot struct {
	variable bool
	name     string
	at       int
	on       []int
}

// web is what the variables of a node hang on. Its knots stand in an order in
// which the variables are as they must be told: outputs, locals, then the
// locals of states as they stand.
type web struct {
	knots []knot
	there map[string]int // the variables that are there, without inputs, which hang on nothing
}

func newWeb(n api.Node) *web {
	w := &web{there: map[string]int{}}
	w.declare(n.Outs)
	w.declare(n.Locals)
	w.clocks(n.Locals)
	body := w.add(knot{})
	w.items(n.Items, body)
	return w
}

func (w *web) add(k knot) int {
	w.knots = append(w.knots, k)
	return len(w.knots) - 1
}

func (w *web) declare(vars []api.Var) {
	for _, v := range vars {
		w.there[v.Name] = w.add(knot{variable: true, name: v.Name, at: v.At})
	}
}

func (w *web) forget(vars []api.Var) {
	for _, v := range vars {
		delete(w.there, v.Name)
	}
}

// clocks is asked of locals that are all there: a clock may name one that
// stands further on.
func (w *web) clocks(locals []api.Var) {
	for _, v := range locals {
		w.hang(w.there[v.Name], edges(v.Clock))
	}
}

func (w *web) hang(k int, names iter.Seq[string]) {
	for name := range names {
		if v, ok := w.there[name]; ok {
			w.knots[k].on = append(w.knots[k].on, v)
		}
	}
}

func isAutomaton(i api.Item) bool { return len(i.States) > 0 }

func (w *web) items(list []api.Item, around int) {
	for _, i := range list {
		k := w.add(knot{on: []int{around}})
		if isAutomaton(i) {
			w.states(i.States, k)
		} else {
			w.equation(i, k)
		}
	}
}

func (w *web) equation(i api.Item, k int) {
	w.hang(k, reads(i.E))
	for _, name := range i.Names {
		if v, ok := w.there[name]; ok {
			w.knots[v].on = append(w.knots[v].on, k)
		}
	}
}

// states lets a state's locals be there behind its unless conditions, which
// don't see them; other states may have locals of the same names.
func (w *web) states(list []api.State, around int) {
	for _, s := range list {
		for _, t := range s.Unless {
			w.hang(around, reads(t.Cond))
		}
		w.declare(s.Locals)
		w.clocks(s.Locals)
		w.items(s.Items, around)
		w.forget(s.Locals)
	}
}
