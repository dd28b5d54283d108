package core

import (
	"slices"

	"metronome/api"
	"metronome/bv"
)

// What an expression may be at most.
const (
	maxDeep  = api.MaxDeep * 10
	maxParts = 2000
)

// asker asks a flat program. What it knows of the variables, by their places
// among inputs, outputs and locals, it learns as the rules go on: each is asked
// of programs of which those ahead of it hold.
type asker struct {
	api.Core
	vars   []api.CVar
	places map[string]int
	eqs    []int // the place of the equation that defines a variable, from 1 on
	clocks []clock
	order  []int // in which each variable stands behind those that it hangs on
}

func newAsker(c api.Core) *asker {
	return &asker{Core: c, places: map[string]int{}}
}

// fault answers the error of the first rule that does not hold.
func (a *asker) fault() api.Errno {
	for _, rule := range []struct {
		holds func() bool
		wrong api.Errno
	}{
		{a.isShort, api.ErrLong},
		{a.isOnce, api.ErrTwice},
		{a.hasKinds, api.ErrType},
		{a.isNamed, api.ErrName},
		{a.isDefined, api.ErrMissing},
		{a.isFormed, api.ErrForm},
		{a.isTyped, api.ErrType},
		{a.isClocked, api.ErrClock},
		{a.isOrdered, api.ErrCycle},
	} {
		if !rule.holds() {
			return rule.wrong
		}
	}
	return api.OK
}

func (a *asker) isShort() bool {
	if len(a.Eqs) > api.MaxEqs || len(a.Ins)+len(a.Outs)+len(a.Locals) > api.MaxEqs {
		return false
	}
	for _, q := range a.Eqs {
		if left := maxParts; q.Form == api.CDef && !fits(q.E, 1, &left) {
			return false
		}
	}
	return true
}

// fits tells whether an expression that is so deep within others is not too
// deep, and has no more parts than are left.
func fits(e api.CExp, deep int, left *int) bool {
	*left--
	if deep > maxDeep || *left < 0 {
		return false
	}
	for _, kid := range e.Kids {
		if !fits(kid, deep+1, left) {
			return false
		}
	}
	return true
}

// isOnce finds the places of the variables, too, and their equations, as far as
// these are those of variables.
func (a *asker) isOnce() bool {
	a.vars = slices.Concat(a.Ins, a.Outs, a.Locals)
	for i, v := range a.vars {
		a.places[v.Name] = i
	}
	a.eqs = make([]int, len(a.vars))
	defined := map[string]int{}
	for i, q := range a.Eqs {
		defined[q.Name] = i
		if at, ok := a.places[q.Name]; ok {
			a.eqs[at] = i + 1
		}
	}
	return len(a.places) == len(a.vars) && len(defined) == len(a.Eqs)
}

func (a *asker) hasKinds() bool {
	return !slices.ContainsFunc(a.vars, func(v api.CVar) bool { return bv.Width(v.Kind) == 0 })
}

func (a *asker) isNamed() bool {
	for _, q := range a.Eqs {
		if at, ok := a.places[q.Name]; !ok || at < len(a.Ins) {
			return false
		}
		if !a.knows(reads(q)) || q.Form == api.CMem && !a.knows(only(q.Next)) {
			return false
		}
	}
	return !slices.ContainsFunc(a.vars, func(v api.CVar) bool { return !a.knows(edges(v)) })
}

func (a *asker) isDefined() bool {
	return !slices.Contains(a.eqs[len(a.Ins):], 0)
}

// equation answers that of a variable that is no input.
func (a *asker) equation(at int) api.CEq { return a.Eqs[a.eqs[at]-1] }

func (a *asker) variable(name string) api.CVar { return a.vars[a.places[name]] }
