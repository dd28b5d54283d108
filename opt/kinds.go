package opt

import (
	"metronome/api"
	"metronome/bv"
)

// kinds is a set of kinds: the bit of each one's number is set. What a part may
// be of is told by such a set, for the kinds of names are not known.
type kinds uint

// everyKind has all kinds, from the first to the last.
const everyKind kinds = 1<<(api.U64+1) - 1<<api.Bool

func only(kind int) kinds { return 1 << kind }

// through answers the kinds that those of a set are turned into.
func (k kinds) through(turn func(kind int) (int, bool)) kinds {
	var made kinds
	for kind := api.Bool; kind <= api.U64; kind++ {
		if k&only(kind) == 0 {
			continue
		}
		if to, ok := turn(kind); ok {
			made |= only(to)
		}
	}
	return made
}

// maxKids is how many kids an expression has at most.
const maxKids = 3

// kidsOf answers how many kids a form has; false of no form.
func kidsOf(form int) (int, bool) {
	switch form {
	case api.ELit, api.EVar:
		return 0, true
	case api.EUn, api.ECast, api.EWhen:
		return 1, true
	case api.EBin, api.EMerge:
		return 2, true
	case api.EIf:
		return maxKids, true
	}
	return 0, false
}

// kindsBy answers the kinds that a part may be of, by those of its kids; none
// of what is no expression.
func kindsBy(e api.CExp, kids [maxKids]kinds) kinds {
	if count, ok := kidsOf(e.Form); !ok || len(e.Kids) != count {
		return 0
	}
	both := kids[0] & kids[1]
	switch {
	case e.Form == api.ELit && bv.Is(e.Kind, e.N):
		return only(e.Kind)
	case e.Form == api.EVar:
		return everyKind
	case e.Form == api.EUn:
		return kids[0].through(func(kind int) (int, bool) { _, ok := bv.Un(e.Sub, kind, 0); return kind, ok })
	case e.Form == api.EBin:
		return both.through(func(kind int) (int, bool) { _, to, ok := bv.Bin(e.Sub, kind, 0, 0); return to, ok })
	case e.Form == api.ECast:
		return kids[0].through(func(kind int) (int, bool) { _, ok := bv.Cast(kind, e.Kind, 0); return e.Kind, ok })
	case e.Form == api.EIf && kids[0]&only(api.Bool) != 0:
		return kids[1] & kids[2]
	case e.Form == api.EWhen && (e.N == 0 || e.N == 1):
		return kids[0]
	case e.Form == api.EMerge:
		return both
	}
	return 0
}
