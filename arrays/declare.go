package arrays

import (
	"iter"
	"slices"

	"metronome/api"
)

type set map[string]struct{}

func (s set) has(name string) bool {
	_, ok := s[name]
	return ok
}

func (s set) add(name string) { s[name] = struct{}{} }

// namesOf answers the names that a variable has become.
func namesOf(v api.Var) []string {
	if v.T.Len <= 0 {
		return []string{v.Name}
	}
	var all []string
	for i := range v.T.Len {
		all = append(all, Name(v.Name, i))
	}
	return all
}

// scalars answers what variables have become.
func scalars(vars []api.Var) []api.Var {
	var all []api.Var
	for _, v := range vars {
		for _, name := range namesOf(v) {
			all = append(all, api.Var{Name: name, T: scalar(v.T.Kind), Clock: slices.Clone(v.Clock), At: v.At})
		}
	}
	return all
}

func scalar(kind int) api.Type { return api.Type{Kind: kind} }

// onBase answers inputs or outputs: these have no clock.
func onBase(vars []api.Var) []api.Var {
	all := slices.Clone(vars)
	for i := range all {
		all[i].Clock = nil
	}
	return all
}

// declared tells the variables of a node, those of its states, too.
func declared(n api.Node) iter.Seq[api.Var] {
	return func(yield func(api.Var) bool) {
		tell(slices.Concat(n.Ins, n.Outs, n.Locals), n.Items, yield)
	}
}

// tell answers whether to go on.
func tell(vars []api.Var, items []api.Item, yield func(api.Var) bool) bool {
	for _, v := range vars {
		if !yield(v) {
			return false
		}
	}
	for _, i := range items {
		for _, s := range i.States {
			if !tell(s.Locals, s.Items, yield) {
				return false
			}
		}
	}
	return true
}

// long tells whether a node's variables have become too many.
func long(n api.Node) bool {
	count := 0
	for v := range declared(n) {
		count += max(1, v.T.Len)
	}
	return count > api.MaxEqs
}

// taken answers all names that the variables of a node have become.
func taken(n api.Node) set {
	all := set{}
	for v := range declared(n) {
		for _, name := range namesOf(v) {
			all.add(name)
		}
	}
	return all
}

// meet tells whether a variable of a node has become one with a name that
// another one has, where both are there.
func meet(n api.Node) bool {
	return set{}.meet(slices.Concat(n.Ins, n.Outs, n.Locals), n.Items)
}

// meet asks variables that come to those that are there, and the states in
// these items.
func (s set) meet(vars []api.Var, items []api.Item) bool {
	var own []string
	for _, v := range vars {
		own = append(own, namesOf(v)...)
	}
	for _, name := range own {
		if s.has(name) {
			return true
		}
		s.add(name)
	}
	for _, i := range items {
		for _, state := range i.States {
			if s.meet(state.Locals, state.Items) {
				return true
			}
		}
	}
	for _, name := range own {
		delete(s, name)
	}
	return false
}
