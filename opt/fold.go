package opt

import (
	"metronome/api"
	"metronome/bv"
)

// folder replaces parts of expressions by what they are, and counts how many.
type folder struct {
	count int
}

// fold answers an expression in which all is replaced that can be, in new
// memory, and the kinds that it may be of. A part that is no expression, for a
// kid of it is none or the kids' kinds do not go together, stays as it is, with
// its kids replaced.
func (f *folder) fold(e api.CExp) (api.CExp, kinds) {
	var kids []api.CExp
	var of [maxKids]kinds
	for i, kid := range e.Kids {
		made, may := f.fold(kid)
		kids = append(kids, made)
		if i < maxKids {
			of[i] = may
		}
	}
	may := kindsBy(e, of)
	if may == 0 {
		e.Kids = kids
		return e, 0
	}
	if isDecided(e.Form, kids) {
		f.count++
		at := 2 - kids[0].N
		return kids[at], of[at]
	}
	if isKnown(e.Form, kids) {
		f.count++
		return valueOf(e, kids), may
	}
	made := bare(e)
	made.Kids = kids
	return made, may
}

// isDecided tells whether a part is one of its kids, as a literal says.
func isDecided(form int, kids []api.CExp) bool {
	return form == api.EIf && kids[0].Form == api.ELit
}

// isKnown tells whether a part is worked out of literals alone.
func isKnown(form int, kids []api.CExp) bool {
	if form != api.EUn && form != api.EBin && form != api.ECast {
		return false
	}
	for _, kid := range kids {
		if kid.Form != api.ELit {
			return false
		}
	}
	return true
}

// valueOf answers the literal that a part of literals is.
func valueOf(e api.CExp, kids []api.CExp) api.CExp {
	made := api.CExp{Form: api.ELit}
	first := kids[0]
	switch e.Form {
	case api.EUn:
		made.Kind = first.Kind
		made.N, _ = bv.Un(e.Sub, first.Kind, first.N)
	case api.EBin:
		made.N, made.Kind, _ = bv.Bin(e.Sub, first.Kind, first.N, kids[1].N)
	case api.ECast:
		made.Kind = e.Kind
		made.N, _ = bv.Cast(first.Kind, e.Kind, first.N)
	}
	return made
}

// bare answers a part without its kids that has nothing but what its form has.
func bare(e api.CExp) api.CExp {
	made := api.CExp{Form: e.Form}
	switch e.Form {
	case api.ELit:
		made.Kind, made.N = e.Kind, e.N
	case api.EUn, api.EBin:
		made.Sub = e.Sub
	case api.ECast:
		made.Kind = e.Kind
	case api.EWhen:
		made.Name, made.N = e.Name, e.N
	case api.EVar, api.EMerge:
		made.Name = e.Name
	}
	return made
}
