package arrays

import (
	"slices"

	"metronome/api"
	"metronome/bv"
)

// hold lets new locals hold what an expression tells, and answers a part whose
// elements they are. They stand in the list of the equation that is looked at,
// so that they are active, and begin anew, as the expression would in its place.
func (x *expander) hold(e api.Exp, t api.Type, on place) elements {
	var names []string
	for range max(1, t.Len) {
		names = append(names, x.fresh())
	}
	for _, name := range names {
		x.list.locals = append(x.list.locals, api.Var{Name: name, T: scalar(t.Kind), Clock: slices.Clone(on.clock), At: e.At})
	}
	x.define(e.At, e, names...)
	return variables(t, e.At, names...)
}

// fresh answers a name that no variable of the node has.
func (x *expander) fresh() string {
	for {
		name := Name("t", x.count)
		x.count++
		if !x.taken.has(name) {
			return name
		}
	}
}

// share answers a scalar that may be asked for as often as told. A local holds
// it: taken each time anew it would grow without bound, where such parts stand
// within one another.
func (x *expander) share(v elements, times int, on place) elements {
	if times < 2 || on.one {
		return v
	}
	e := v.at(0)
	if e.Form == api.ELit || e.Form == api.EVar {
		return elements{v.t, false, func(int) api.Exp { return e }}
	}
	return x.hold(there(e, v), v.t, on)
}

// there lets a value be there at first that is not: an equation must have one.
// Which one does not matter, since an arrow further out does not let it through.
func there(e api.Exp, v elements) api.Exp {
	if !v.late {
		return e
	}
	zero := api.Exp{Form: api.ELit, T: scalar(v.t.Kind), N: bv.Zero(v.t.Kind), At: e.At}
	return api.Exp{Form: api.EArrow, Kids: []api.Exp{zero, e}, At: e.At}
}
