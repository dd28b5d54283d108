package first

import (
	"metronome/api"
)

// late goes over an expression, its kids first: it refuses what is wrong within
// it, and tells whether it is late itself.
func (f *finder) late(e api.Exp) bool {
	if isLeaf(e.Form) {
		return false
	}
	isLate := over(e.Kids, f.late)
	switch e.Form {
	case api.EPre:
		f.refuseKids(e, 0, isLate)
		return true
	case api.EFby:
		f.refuseKids(e, 1, isLate)
		fallthrough
	case api.EArrow:
		return isLate(0)
	case api.EMerge, api.ECall, api.EReset, api.EMap, api.EFold:
		f.refuseKids(e, 0, isLate)
		fallthrough
	default:
		for i := range e.Kids {
			if isLate(i) {
				return true
			}
		}
		return false
	}
}

// isLeaf tells of a form whether its kids mean nothing.
func isLeaf(form int) bool {
	return form == api.ELit || form == api.EVar || form == api.ETick
}

// over goes over kids, from the left, and answers what tells which of them are
// late. Each is gone over once: to ask again for each part around would take
// too long where many parts are within one another.
func over(kids []api.Exp, late func(api.Exp) bool) func(kid int) bool {
	told := make([]bool, len(kids))
	for i, kid := range kids {
		told[i] = late(kid)
	}
	return func(kid int) bool { return kid < len(told) && told[kid] }
}

// refuseKids refuses the late ones of the kids from a place on: they are read
// at the first tick, though what is around them may not be.
func (f *finder) refuseKids(e api.Exp, from int, isLate func(kid int) bool) {
	for i := from; i < len(e.Kids); i++ {
		if isLate(i) {
			f.refuse(e.Kids[i].At)
		}
	}
}
