package names

import (
	"slices"

	"metronome/api"
)

// An oracle of P501 that goes through a whole program, gathers all that is
// wrong in it, in order, and takes the first; names are looked for in lists.

type oracle struct {
	program api.Program
	wrong   []fault
}

// scope is what is there at a place: variables, those of them that may be
// defined, how many nodes stand ahead.
type scope struct {
	all, own []string
	ahead    int
}

func (s scope) with(own []api.Var) scope {
	return scope{slices.Concat(s.all, varNames(own)), slices.Concat(s.own, varNames(own)), s.ahead}
}

func varNames(vars []api.Var) (names []string) {
	for _, v := range vars {
		names = append(names, v.Name)
	}
	return names
}

func oracleCheck(p api.Program) (int, api.Errno) {
	o := &oracle{program: p}
	for n := range p.Nodes {
		o.node(n)
	}
	o.wrong = append(o.wrong, fault{})
	return o.wrong[0].at, o.wrong[0].what
}

func (o *oracle) say(is bool, at int, what api.Errno) {
	if is {
		o.wrong = append(o.wrong, fault{at, what})
	}
}

func (o *oracle) isNode(name string, ahead int) bool {
	return slices.ContainsFunc(o.program.Nodes[:ahead], func(n api.Node) bool { return n.Name == name })
}

func (o *oracle) node(at int) {
	n := o.program.Nodes[at]
	o.say(o.isNode(n.Name, at), n.At, api.ErrTwice)
	all := slices.Concat(n.Ins, n.Outs, n.Locals)
	for i, v := range all {
		o.say(slices.Contains(varNames(all[:i]), v.Name), v.At, api.ErrTwice)
	}
	s := scope{varNames(n.Ins), nil, at}.with(n.Outs).with(n.Locals)
	o.items(s, n.Items)
	for _, v := range slices.Concat(n.Outs, n.Locals) {
		o.say(!slices.Contains(defines(n.Items), v.Name), v.At, api.ErrMissing)
	}
	o.clocks(s, n.Locals, n.Items)
}

// defines answers the names that items define, and what their automata do, by
// their first states.
func defines(items []api.Item) (names []string) {
	for _, i := range items {
		names = append(names, i.Names...)
		if len(i.States) > 0 {
			names = append(names, outside(i.States[0])...)
		}
	}
	return names
}

func outside(s api.State) []string {
	all := slices.DeleteFunc(defines(s.Items), func(name string) bool { return slices.Contains(varNames(s.Locals), name) })
	slices.Sort(all)
	return slices.Compact(all)
}

func (o *oracle) items(s scope, items []api.Item) {
	for n, i := range items {
		ahead := defines(items[:n])
		if len(i.States) > 0 {
			o.states(s, i.States)
			o.say(slices.ContainsFunc(outside(i.States[0]), func(name string) bool { return slices.Contains(ahead, name) }), i.At, api.ErrTwice)
			continue
		}
		for k, name := range i.Names {
			o.say(!slices.Contains(s.own, name), i.At, api.ErrName)
			o.say(slices.Contains(append(ahead, i.Names[:k]...), name), i.At, api.ErrTwice)
		}
		o.names(s, i.E)
	}
}

func (o *oracle) names(s scope, e api.Exp) {
	switch e.Form {
	case api.EVar, api.EWhen, api.EMerge:
		o.say(!slices.Contains(s.all, e.Name), e.At, api.ErrName)
	case api.ECall, api.EReset, api.EMap, api.EFold:
		o.say(!o.isNode(e.Name, s.ahead), e.At, api.ErrName)
	}
	for _, k := range e.Kids {
		o.names(s, k)
	}
}

func memory(e api.Exp) bool {
	return slices.Contains([]int{api.EPre, api.EArrow, api.EFby, api.ETick, api.ECall, api.EReset, api.EMap, api.EFold}, e.Form) || slices.ContainsFunc(e.Kids, memory)
}

func (o *oracle) states(s scope, states []api.State) {
	var named []string
	for _, state := range states {
		o.say(slices.Contains(named, state.Name), state.At, api.ErrTwice)
		named = append(named, state.Name)
	}
	for _, state := range states {
		for i, v := range state.Locals {
			o.say(slices.Contains(s.with(state.Locals[:i]).all, v.Name), v.At, api.ErrTwice)
		}
		inner := s.with(state.Locals)
		o.transitions(s, named, state.Unless)
		o.items(inner, state.Items)
		for _, v := range state.Locals {
			o.say(!slices.Contains(defines(state.Items), v.Name), v.At, api.ErrMissing)
		}
		o.transitions(inner, named, state.Until)
	}
	for _, state := range states {
		o.say(!slices.Equal(outside(state), outside(states[0])), state.At, api.ErrState)
	}
}

func (o *oracle) transitions(s scope, named []string, all []api.Trans) {
	for _, t := range all {
		o.say(!slices.Contains(named, t.To), t.At, api.ErrName)
		o.names(s, t.Cond)
		o.say(memory(t.Cond), t.At, api.ErrCond)
	}
}

func (o *oracle) clocks(s scope, locals []api.Var, items []api.Item) {
	for _, v := range locals {
		for _, e := range v.Clock {
			o.say(e.Name == v.Name || !slices.Contains(s.all, e.Name), v.At, api.ErrName)
		}
	}
	for _, i := range items {
		for _, state := range i.States {
			o.clocks(s.with(state.Locals), state.Locals, state.Items)
		}
	}
}
