package core

import (
	"metronome/api"
)

// clock is a clock by its last edge. That says all of it: the edges ahead are
// those of the clock of the edge's variable.
type clock int

const (
	free clock = -1 // goes with any other one
	base clock = 0
)

// behind answers the clock of those ticks at which a variable is there, and
// true or not.
func behind(place int, on bool) clock {
	if on {
		return clock(2*place + 2)
	}
	return clock(2*place + 1)
}

// edge answers the last edge of a clock that is not the base: the place of its
// variable, and what that must be.
func (c clock) edge() (int, bool) { return int(c-1) / 2, c%2 == 0 }

// common answers the clock of all parts, and whether they go together. It is
// free, if all theirs are.
func common[P any](parts []P, clockOf func(P) (clock, bool)) (clock, bool) {
	shared := free
	for _, p := range parts {
		c, ok := clockOf(p)
		if !ok || c != free && shared != free && c != shared {
			return free, false
		}
		shared = max(shared, c)
	}
	return shared, true
}

// itself stands where the parts that are gone over are clocks.
func itself(c clock) (clock, bool) { return c, true }

func together(clocks ...clock) bool {
	_, ok := common(clocks, itself)
	return ok
}

// isClocked finds the clocks of the variables, too.
func (a *asker) isClocked() bool {
	for _, v := range a.vars {
		at := base
		if last := len(v.Clock) - 1; last >= 0 {
			at = a.after(v.Clock[last])
		}
		a.clocks = append(a.clocks, at)
	}
	for i, v := range a.vars {
		if i < len(a.Ins)+len(a.Outs) && a.clocks[i] != base || !a.isClock(v.Clock) {
			return false
		}
	}
	for _, q := range a.Eqs {
		if !a.clocked(q) {
			return false
		}
	}
	return true
}

func (a *asker) after(e api.Edge) clock { return behind(a.places[e.Name], e.On) }

// clockNamed answers the clock of the variable of a name.
func (a *asker) clockNamed(name string) (clock, bool) { return a.clocks[a.places[name]], true }

func (a *asker) isClock(edges []api.Edge) bool {
	at := base
	for _, e := range edges {
		if c, _ := a.clockNamed(e.Name); c != at {
			return false
		}
		at = a.after(e)
	}
	return true
}

func (a *asker) clocked(q api.CEq) bool {
	at, _ := a.clockNamed(q.Name)
	switch q.Form {
	case api.CMem:
		names := []string{q.Name, q.Next, q.Reset}
		if q.Reset == "" {
			names = names[:2]
		}
		_, ok := common(names, a.clockNamed)
		return ok
	case api.CTick:
		return at == base
	}
	c, ok := a.clockOf(q.E)
	return ok && together(c, at)
}

// clockOf answers the clock of an expression, and whether those of its kids go
// together.
func (a *asker) clockOf(e api.CExp) (clock, bool) {
	switch e.Form {
	case api.ELit:
		return free, true
	case api.EVar:
		return a.clockNamed(e.Name)
	case api.EWhen:
		at, _ := a.clockNamed(e.Name)
		c, ok := a.clockOf(e.Kids[0])
		return behind(a.places[e.Name], e.N == 1), ok && together(c, at)
	case api.EMerge:
		return a.merged(e)
	}
	return common(e.Kids, a.clockOf)
}

func (a *asker) merged(e api.CExp) (clock, bool) {
	for i, on := range []bool{true, false} {
		c, ok := a.clockOf(e.Kids[i])
		if !ok || !together(c, behind(a.places[e.Name], on)) {
			return free, false
		}
	}
	return a.clockNamed(e.Name)
}
