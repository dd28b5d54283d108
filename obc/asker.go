package obc

import (
	"iter"

	"metronome/api"
	"metronome/bv"
)

// asker asks step code. Each rule is asked of step code of which those ahead of
// it hold.
type asker struct {
	api.Step
	slots
}

func newAsker(s api.Step) *asker {
	return &asker{Step: s, slots: slots{}}
}

// fault answers the error of the first rule that does not hold.
func (a *asker) fault() api.Errno {
	for _, rule := range []struct {
		holds func() bool
		wrong api.Errno
	}{
		{a.isShort, api.ErrLong},
		{a.isOnce, api.ErrTwice},
		{a.hasKinds, api.ErrType},
		{a.isFormed, api.ErrForm},
		{a.isNamed, api.ErrName},
		{a.isTyped, api.ErrType},
	} {
		if !rule.holds() {
			return rule.wrong
		}
	}
	return api.OK
}

func (a *asker) countNames() int {
	return len(a.Ins) + len(a.Outs) + len(a.Vars) + len(a.Cells)
}

// isShort asks the expressions of all statements, of those of no form, too: what
// is too long is told ahead of what has no form.
func (a *asker) isShort() bool {
	all := meter{left: maxStatements, deepest: maxDeep}
	if a.countNames() > api.MaxCells || !all.statements(a.Body, 1) {
		return false
	}
	for s := range statements(a.Body) {
		one := meter{left: maxParts, deepest: maxDeep}
		if !one.parts(s.E, 1) {
			return false
		}
	}
	return true
}

// isOnce finds the slots of the names, too.
func (a *asker) isOnce() bool {
	place := 0
	for i, list := range [][]api.CVar{a.Ins, a.Outs, a.Vars} {
		for _, v := range list {
			a.slots[v.Name] = slot{role: min(given+i, held), place: place, kind: v.Kind}
			place++
		}
	}
	for i, c := range a.Cells {
		a.slots[c.Name] = slot{role: kept, place: i, kind: c.Kind}
	}
	return len(a.slots) == a.countNames()
}

func (a *asker) hasKinds() bool {
	for _, s := range a.slots {
		if bv.Width(s.kind) == 0 {
			return false
		}
	}
	return true
}

func (a *asker) isFormed() bool {
	for s := range statements(a.Body) {
		if !isForm(s.Form) {
			return false
		}
		for e := range parts(s.E) {
			if count, ok := kidsOf(e.Form); !ok || len(e.Kids) != count || e.Form == api.ELit && !bv.Is(e.Kind, e.N) {
				return false
			}
		}
	}
	for _, c := range a.Cells {
		if !bv.Is(c.Kind, c.Init) {
			return false
		}
	}
	return true
}

func (a *asker) isNamed() bool {
	for s := range statements(a.Body) {
		role := a.slots[s.Name].role
		if s.Form == api.SSet && role != held || s.Form == api.SStore && role != kept {
			return false
		}
		for e := range parts(s.E) {
			if e.Form == api.EVar && a.slots[e.Name].role == none {
				return false
			}
		}
	}
	return true
}

func (a *asker) isTyped() bool {
	for s := range statements(a.Body) {
		want := api.Bool
		if s.Form != api.SIf {
			want = a.slots[s.Name].kind
		}
		if kind, ok := a.kindOf(s.E); !ok || kind != want {
			return false
		}
	}
	return true
}

// statements tells the statements of a list, each ahead of those within it.
func statements(list []api.Stmt) iter.Seq[api.Stmt] {
	return func(yield func(api.Stmt) bool) { walkList(list, yield) }
}

func walkList(list []api.Stmt, yield func(api.Stmt) bool) bool {
	for _, s := range list {
		if !yield(s) || !walkList(thenOf(s), yield) || !walkList(elseOf(s), yield) {
			return false
		}
	}
	return true
}

// parts tells the parts of an expression, each ahead of its kids.
func parts(e api.CExp) iter.Seq[api.CExp] {
	return func(yield func(api.CExp) bool) { walk(e, yield) }
}

func walk(e api.CExp, yield func(api.CExp) bool) bool {
	if !yield(e) {
		return false
	}
	for _, kid := range e.Kids {
		if !walk(kid, yield) {
			return false
		}
	}
	return true
}
