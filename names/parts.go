package names

import (
	"iter"

	"metronome/api"
)

// parts tells the parts of an expression, from the left, each ahead of its
// kids.
func parts(e api.Exp) iter.Seq[api.Exp] {
	return func(yield func(api.Exp) bool) { walk(e, yield) }
}

// walk tells whether to go on.
func walk(e api.Exp, yield func(api.Exp) bool) bool {
	if !yield(e) {
		return false
	}
	if leaf(e.Form) {
		return true
	}
	for _, kid := range e.Kids {
		if !walk(kid, yield) {
			return false
		}
	}
	return true
}

// leaf tells of a form whether its kids mean nothing.
func leaf(form int) bool {
	return form == api.ELit || form == api.EVar || form == api.ETick
}

func uses(form int) bool {
	return form == api.EVar || form == api.EWhen || form == api.EMerge
}

func calls(form int) bool {
	switch form {
	case api.ECall, api.EReset, api.EMap, api.EFold:
		return true
	}
	return false
}

// remembers holds of each call, too: what the node does inside is not looked
// at.
func remembers(form int) bool {
	switch form {
	case api.EPre, api.EArrow, api.EFby, api.ETick:
		return true
	}
	return calls(form)
}

// needsKid tells of a form with any number of kids whether it has at least one.
func needsKid(form int) bool {
	return form == api.EReset || form == api.EArr || form == api.EMap
}
