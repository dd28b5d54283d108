package sched

import (
	"iter"
	"slices"

	"metronome/api"
)

// web knows of each variable its equation and its clock.
type web struct {
	eqs    []api.CEq
	places map[string]int
	clocks map[string][]api.Edge
}

func newWeb(c api.Core) web {
	w := web{eqs: c.Eqs, places: map[string]int{}, clocks: map[string][]api.Edge{}}
	for at, q := range c.Eqs {
		w.places[q.Name] = at
	}
	for _, v := range slices.Concat(c.Outs, c.Locals) {
		w.clocks[v.Name] = v.Clock
	}
	return w
}

// hangsOn tells the equations that an equation hangs on, one more than once if
// it names its variable more than once. An input has none.
func (w web) hangsOn(at int) iter.Seq[int] {
	return func(yield func(int) bool) {
		for name := range w.names(w.eqs[at]) {
			if by, ok := w.places[name]; ok && !yield(by) {
				return
			}
		}
	}
}

// names tells the variables that must be known ahead of an equation's own. A
// memory's Next is none of them: it is read behind the tick.
func (w web) names(q api.CEq) iter.Seq[string] {
	return func(yield func(string) bool) {
		for _, edge := range w.clocks[q.Name] {
			if !yield(edge.Name) {
				return
			}
		}
		switch q.Form {
		case api.CDef:
			readBy(q.E, yield)
		case api.CMem:
			if q.Reset != "" { // else it has none, even if a variable has the empty name
				yield(q.Reset)
			}
		}
	}
}

// readBy tells what an expression names; whether more is wanted.
func readBy(e api.CExp, yield func(string) bool) bool {
	switch e.Form {
	case api.EVar, api.EWhen, api.EMerge:
		if !yield(e.Name) {
			return false
		}
	}
	for _, kid := range e.Kids {
		if !readBy(kid, yield) {
			return false
		}
	}
	return true
}
