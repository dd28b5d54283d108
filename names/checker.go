package names

import (
	"metronome/api"
)

// fault is a thing that is wrong, and its place; that of OK is none.
type fault struct {
	at   int
	what api.Errno
}

func (f fault) found() bool { return f.what != api.OK }

// inOrder tries checks, up to the first one that finds a fault.
func inOrder(checks ...func() fault) fault {
	for _, check := range checks {
		if f := check(); f.found() {
			return f
		}
	}
	return fault{}
}

type set map[string]struct{}

func (s set) has(name string) bool {
	_, ok := s[name]
	return ok
}

func (s set) add(name string) { s[name] = struct{}{} }

// What a name may be there as.
const (
	aNode = iota
	anIn  // a variable that no equation may define
	anOwn // an output or a local
)

// checker holds the names that are there at the place that is looked at: those
// of each sort in a map of their own.
type checker struct {
	there map[int]set
}

func newChecker() *checker {
	return &checker{map[int]set{aNode: {}, anIn: {}, anOwn: {}}}
}

func (c *checker) variable(name string) bool {
	return c.there[anIn].has(name) || c.there[anOwn].has(name)
}

// declare lets variables be there from now on.
func (c *checker) declare(as int, vars []api.Var) fault {
	for _, v := range vars {
		if c.variable(v.Name) {
			return fault{v.At, api.ErrTwice}
		}
		c.there[as].add(v.Name)
	}
	return fault{}
}

func (c *checker) forget(as int, vars []api.Var) {
	for _, v := range vars {
		delete(c.there[as], v.Name)
	}
}

// missing finds a variable that is not defined.
func missing(vars []api.Var, defined set) fault {
	for _, v := range vars {
		if !defined.has(v.Name) {
			return fault{v.At, api.ErrMissing}
		}
	}
	return fault{}
}

// expression finds a part whose name is not there; then one with too few kids.
func (c *checker) expression(e api.Exp) fault {
	for part := range parts(e) {
		if uses(part.Form) && !c.variable(part.Name) || calls(part.Form) && !c.there[aNode].has(part.Name) {
			return fault{part.At, api.ErrName}
		}
	}
	for part := range parts(e) {
		if needsKid(part.Form) && len(part.Kids) == 0 {
			return fault{part.At, api.ErrCount}
		}
	}
	return fault{}
}

// clocks finds a local with a wrong clock, among these locals (which are there)
// and those of the states in these items.
func (c *checker) clocks(locals []api.Var, items []api.Item) fault {
	for _, v := range locals {
		if !c.clock(v) {
			return fault{v.At, api.ErrName}
		}
	}
	for _, i := range items {
		for _, s := range i.States {
			c.declare(anOwn, s.Locals)
			if f := c.clocks(s.Locals, s.Items); f.found() {
				return f
			}
			c.forget(anOwn, s.Locals)
		}
	}
	return fault{}
}

func (c *checker) clock(v api.Var) bool {
	for _, e := range v.Clock {
		if e.Name == v.Name || !c.variable(e.Name) {
			return false
		}
	}
	return true
}
