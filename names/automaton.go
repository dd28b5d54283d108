package names

import (
	"maps"

	"metronome/api"
)

// automatonCheck checks an automaton. Of each of its states, by name, it holds
// what the state defines from outside of it.
type automatonCheck struct {
	*checker
	all     []api.State
	outside map[string]set
}

// checkStates checks an automaton's states, and answers what the automaton defines.
func (c *checker) checkStates(all []api.State) (set, fault) {
	a := &automatonCheck{checker: c, all: all, outside: map[string]set{}}
	f := inOrder(a.names, a.each, a.same)
	return a.outside[all[0].Name], f
}

func (a *automatonCheck) names() fault {
	for _, s := range a.all {
		if a.state(s.Name) {
			return fault{s.At, api.ErrTwice}
		}
		a.outside[s.Name] = nil
	}
	return fault{}
}

func (a *automatonCheck) state(name string) bool {
	_, ok := a.outside[name]
	return ok
}

func (a *automatonCheck) each() fault {
	for _, state := range a.all {
		s := &stateCheck{automatonCheck: a, of: state}
		if f := s.check(); f.found() {
			return f
		}
		a.outside[state.Name] = s.defined
	}
	return fault{}
}

func (a *automatonCheck) same() fault {
	first := a.outside[a.all[0].Name]
	for _, s := range a.all {
		if !maps.Equal(a.outside[s.Name], first) {
			return fault{s.At, api.ErrState}
		}
	}
	return fault{}
}

// stateCheck checks a state.
type stateCheck struct {
	*automatonCheck
	of      api.State
	defined set
}

// check enters twice: the unless transitions come behind the locals' names, but
// don't see them.
func (s *stateCheck) check() fault {
	return inOrder(s.enter, s.leave, s.unless, s.enter, s.items, s.missing, s.until, s.leave)
}

func (s *stateCheck) enter() fault { return s.declare(anOwn, s.of.Locals) }

// leave lets what the state defines be what it defines from outside.
func (s *stateCheck) leave() fault {
	s.forget(anOwn, s.of.Locals)
	for _, v := range s.of.Locals {
		delete(s.defined, v.Name)
	}
	return fault{}
}

func (s *stateCheck) unless() fault { return s.transitions(s.of.Unless) }

func (s *stateCheck) until() fault { return s.transitions(s.of.Until) }

func (s *stateCheck) items() (f fault) {
	s.defined, f = s.checkItems(s.of.Items)
	return f
}

func (s *stateCheck) missing() fault { return missing(s.of.Locals, s.defined) }

func (s *stateCheck) transitions(list []api.Trans) fault {
	for _, t := range list {
		if !s.state(t.To) {
			return fault{t.At, api.ErrName}
		}
		if f := s.expression(t.Cond); f.found() {
			return f
		}
		if Memory(t.Cond) {
			return fault{t.At, api.ErrCond}
		}
	}
	return fault{}
}
