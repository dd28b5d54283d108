package core

import (
	"slices"

	"metronome/api"
	"metronome/bv"
)

func (a *asker) isFormed() bool {
	for _, q := range a.Eqs {
		if !a.formed(q) {
			return false
		}
	}
	return true
}

func (a *asker) formed(q api.CEq) bool {
	switch q.Form {
	case api.CDef:
		for e := range parts(q.E) {
			if count, ok := kidsOf(e.Form); !ok || len(e.Kids) != count || !hasNumber(e) {
				return false
			}
		}
		return true
	case api.CMem:
		return bv.Is(a.variable(q.Name).Kind, q.Init)
	case api.CTick:
		return q.Period >= 1 && q.Period <= api.MaxPeriod && q.Offset >= 0 && q.Offset < q.Period
	}
	return false
}

// kidsOf answers how many kids a form has; false of no form.
func kidsOf(form int) (int, bool) {
	count := 0
	switch form {
	case api.EIf:
		count++
		fallthrough
	case api.EBin, api.EMerge:
		count++
		fallthrough
	case api.EUn, api.ECast, api.EWhen:
		count++
		fallthrough
	case api.ELit, api.EVar:
		return count, true
	}
	return 0, false
}

func hasNumber(e api.CExp) bool {
	switch e.Form {
	case api.ELit:
		return bv.Is(e.Kind, e.N)
	case api.EWhen:
		return e.N == 0 || e.N == 1
	}
	return true
}

func (a *asker) isTyped() bool {
	for _, v := range a.vars {
		for name := range edges(v) {
			if a.variable(name).Kind != api.Bool {
				return false
			}
		}
	}
	for _, q := range a.Eqs {
		if !a.typed(q) {
			return false
		}
	}
	return true
}

func (a *asker) typed(q api.CEq) bool {
	kind := a.variable(q.Name).Kind
	switch q.Form {
	case api.CMem:
		return a.variable(q.Next).Kind == kind && (q.Reset == "" || a.variable(q.Reset).Kind == api.Bool)
	case api.CTick:
		return kind == api.Bool
	}
	of, ok := a.kindOf(q.E)
	return ok && of == kind
}

// kindOf answers the kind of an expression, and whether those of its kids go
// together.
func (a *asker) kindOf(e api.CExp) (int, bool) {
	kids := make([]int, len(e.Kids))
	for i, kid := range e.Kids {
		kind, ok := a.kindOf(kid)
		if !ok {
			return 0, false
		}
		kids[i] = kind
	}
	return a.kindBy(e, kids)
}

// kindBy answers the kind of a part by the kinds of its kids. What EWhen and
// EMerge go by is a variable, where EIf has a kid.
func (a *asker) kindBy(e api.CExp, kids []int) (int, bool) {
	switch e.Form {
	case api.ELit:
		return e.Kind, true
	case api.EVar:
		return a.variable(e.Name).Kind, true
	case api.EUn:
		_, ok := bv.Un(e.Sub, kids[0], 0)
		return kids[0], ok
	case api.EBin:
		_, kind, ok := bv.Bin(e.Sub, kids[0], 0, 0)
		return kind, ok && kids[0] == kids[1]
	case api.ECast:
		_, ok := bv.Cast(kids[0], e.Kind, 0)
		return e.Kind, ok
	case api.EWhen, api.EMerge:
		kids = slices.Insert(kids, 0, a.variable(e.Name).Kind)
		fallthrough
	default:
		return kids[1], kids[0] == api.Bool && kids[1] == kids[len(kids)-1]
	}
}
