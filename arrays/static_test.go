package arrays_test

import (
	"slices"

	"metronome/api"
	"metronome/names"
)

// Oracles of the chapters 8, 9 and 10: has a program a meaning?

// ruler goes over a program; what is wrong is told by tell.
type ruler struct {
	clocks map[string][]api.Edge
	hangs  map[string][]string
	wrong  []string
}

func (r *ruler) tell(is bool, what string) {
	if is {
		r.wrong = append(r.wrong, what)
	}
}

// faults are the chapters' words for what is wrong in a program.
func faults(p api.Program) (all []string) {
	for _, n := range p.Nodes {
		r := &ruler{clocks: map[string][]api.Edge{}, hangs: map[string][]string{}}
		for _, v := range slices.Concat(n.Ins, n.Outs) {
			r.clocks[v.Name] = nil
		}
		r.locals(n.Locals)
		r.items(n.Items, nil, nil)
		for name := range r.hangs {
			r.tell(r.reaches(map[string]int{}, name, name), name+" hangs on itself")
		}
		all = append(all, r.wrong...)
	}
	return all
}

func (r *ruler) reaches(seen map[string]int, from, to string) bool {
	for _, next := range r.hangs[from] {
		if next == to {
			return true
		}
		if seen[next]++; seen[next] == 1 && r.reaches(seen, next, to) {
			return true
		}
	}
	return false
}

func (r *ruler) locals(vars []api.Var) {
	for _, v := range vars {
		r.clocks[v.Name] = v.Clock
	}
	for _, v := range vars {
		for i, e := range v.Clock {
			r.tell(!slices.Equal(r.clocks[e.Name], v.Clock[:i]), "the clock of "+v.Name)
			r.hangs[v.Name] = append(r.hangs[v.Name], e.Name)
		}
	}
}

// items asks a list; inside a state its own locals are those it may use that are not on the base.
func (r *ruler) items(items []api.Item, own []string, around []string) {
	for _, i := range items {
		if len(i.States) > 0 {
			for _, s := range i.States {
				for _, t := range s.Unless {
					r.condition(t, own, len(own) > 0)
				}
			}
			for _, s := range i.States {
				r.state(i, s, own, around)
			}
			continue
		}
		r.tell(late(i.E), "late")
		r.first(i.E)
		clock, fixed := r.clock(i.E)
		for _, name := range i.Names {
			r.tell(fixed && !slices.Equal(r.clocks[name], clock) || !slices.Equal(r.clocks[name], r.clocks[i.Names[0]]), "the clock of the equation of "+name)
			r.hangs[name] = append(append(r.hangs[name], reads(i.E)...), around...)
		}
		if own != nil {
			r.base(append(names.Uses(i.E), i.Names...), own)
		}
	}
}

func (r *ruler) base(used, own []string) {
	for _, name := range used {
		r.tell(!slices.Contains(own, name) && len(r.clocks[name]) > 0, name+" in a state")
	}
}

func (r *ruler) condition(t api.Trans, own []string, within bool) {
	clock, fixed := r.clock(t.Cond)
	r.tell(fixed && len(clock) > 0, "the clock of a condition")
	r.tell(late(t.Cond), "late")
	r.base(names.Uses(t.Cond), own)
}

func (r *ruler) state(i api.Item, s api.State, own, around []string) {
	own = append([]string{""}, own...)
	for _, v := range s.Locals {
		own = append(own, v.Name)
	}
	around = slices.Clone(around)
	for _, other := range i.States {
		for _, t := range other.Unless {
			around = append(around, reads(t.Cond)...)
		}
	}
	r.locals(s.Locals)
	for _, v := range s.Locals {
		for _, e := range v.Clock {
			r.base([]string{e.Name}, own)
		}
	}
	r.items(s.Items, own, around)
	for _, t := range s.Until {
		r.condition(t, own, true)
	}
}

func (r *ruler) clock(e api.Exp) (clock []api.Edge, fixed bool) {
	if e.Form == api.EVar {
		return r.clocks[e.Name], true
	}
	base := r.clocks[e.Name]
	for i, kid := range e.Kids {
		c, f := r.clock(kid)
		want, any := clock, !fixed
		switch e.Form {
		case api.EWhen:
			want, any = base, false
		case api.EMerge:
			want, any = append(slices.Clone(base), api.Edge{Name: e.Name, On: i == 0}), false
		}
		r.tell(f && !any && !slices.Equal(c, want), "the clock of a kid")
		if f {
			clock, fixed = c, true
		}
	}
	switch e.Form {
	case api.EWhen:
		return append(slices.Clone(base), api.Edge{Name: e.Name, On: e.N == 1}), true
	case api.EMerge:
		return base, true
	}
	return clock, fixed
}

func late(e api.Exp) bool {
	switch e.Form {
	case api.EPre:
		return true
	case api.EArrow, api.EFby:
		return late(e.Kids[0])
	}
	return slices.ContainsFunc(e.Kids, late)
}

func (r *ruler) first(e api.Exp) {
	for i, kid := range e.Kids {
		r.first(kid)
		switch e.Form {
		case api.EPre, api.EMerge, api.ECall, api.EReset, api.EMap, api.EFold:
			r.tell(late(kid), "a late kid")
		case api.EFby:
			r.tell(i == 1 && late(kid), "a late kid")
		}
	}
}

// reads are the names that an expression uses within a tick.
func reads(e api.Exp) (all []string) {
	switch e.Form {
	case api.EPre:
		return nil
	case api.EFby:
		return reads(e.Kids[0])
	case api.EVar, api.EWhen, api.EMerge:
		all = append(all, e.Name)
	}
	for _, kid := range e.Kids {
		all = append(all, reads(kid)...)
	}
	return all
}
