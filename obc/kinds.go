package obc

import (
	"metronome/api"
	"metronome/bv"
)

// What a name may stand for; that of the zero slot is nothing.
const (
	none  = iota
	given // an input
	held  // an output or a variable
	kept  // a cell
)

// slot is what a name stands for; its place is among the inputs, outputs and
// variables, or among the cells.
type slot struct {
	role, place, kind int
}

type slots map[string]slot

// maxKids is how many kids an expression has at most.
const maxKids = 3

// kidsOf answers how many kids a form has; false of no form.
func kidsOf(form int) (int, bool) {
	switch form {
	case api.ELit, api.EVar:
		return 0, true
	case api.EUn, api.ECast:
		return 1, true
	case api.EBin:
		return 2, true
	case api.EIf:
		return maxKids, true
	}
	return 0, false
}

// kindOf answers the kind of an expression, and whether those of its kids go
// together.
func (l slots) kindOf(e api.CExp) (int, bool) {
	var kids [maxKids]int
	for i, kid := range e.Kids {
		kind, ok := l.kindOf(kid)
		if !ok {
			return 0, false
		}
		kids[i] = kind
	}
	return l.kindBy(e, kids)
}

// kindBy answers the kind of a part by the kinds of its kids. That of a cast is
// what it says, as a literal's is.
func (l slots) kindBy(e api.CExp, kids [maxKids]int) (int, bool) {
	switch e.Form {
	case api.EVar:
		return l[e.Name].kind, true
	case api.EUn:
		_, ok := bv.Un(e.Sub, kids[0], 0)
		return kids[0], ok
	case api.EBin:
		_, kind, ok := bv.Bin(e.Sub, kids[0], 0, 0)
		return kind, ok && kids[0] == kids[1]
	case api.EIf:
		return kids[1], kids[0] == api.Bool && kids[1] == kids[2]
	case api.ECast:
		if bv.Width(e.Kind) == 0 {
			return 0, false
		}
		fallthrough
	default:
		return e.Kind, true
	}
}
