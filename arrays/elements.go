package arrays

import (
	"slices"

	"metronome/api"
)

// elements is what a part has become: an expression for each of its elements,
// one of a scalar. Each of them is asked for once at most.
type elements struct {
	t    api.Type
	late bool                // its value may not be there at first
	at   func(i int) api.Exp // of a scalar the same for each i
}

func (e elements) all() []api.Exp {
	var all []api.Exp
	for i := range max(1, e.t.Len) {
		all = append(all, e.at(i))
	}
	return all
}

// place is where a part stands: on which clock, and whether one of its elements
// alone is asked for.
type place struct {
	clock []api.Edge
	one   bool
}

// onto answers the place of a kid that is on another clock.
func (p place) onto(clock []api.Edge, edges ...api.Edge) place {
	return place{slices.Concat(clock, edges), p.one}
}

func (p place) whole() place { return place{p.clock, false} }

func (p place) single() place { return place{p.clock, true} }

func anyLate(parts ...elements) bool {
	return slices.ContainsFunc(parts, func(e elements) bool { return e.late })
}

// lift answers a part that does with the elements of its kids what head does
// with scalars.
func lift(head api.Exp, t api.Type, kids ...elements) elements {
	return elements{t, anyLate(kids...), func(i int) api.Exp {
		var all []api.Exp
		for _, k := range kids {
			all = append(all, k.at(i))
		}
		return with(head, all...)
	}}
}

func with(head api.Exp, kids ...api.Exp) api.Exp {
	head.Kids = kids
	return head
}

// variables answers a part whose elements are these variables.
func variables(t api.Type, at int, names ...string) elements {
	return elements{t, false, func(i int) api.Exp {
		return api.Exp{Form: api.EVar, Name: names[min(i, len(names)-1)], At: at}
	}}
}
