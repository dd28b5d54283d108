package cause

import (
	"iter"

	"metronome/api"
)

// reads tells the names that an expression reads, as often as it reads them.
func reads(e api.Exp) iter.Seq[string] {
	return func(yield func(string) bool) { walk(e, yield) }
}

// walk tells whether to go on.
func walk(e api.Exp, yield func(string) bool) bool {
	if uses(e.Form) && !yield(e.Name) {
		return false
	}
	for _, kid := range needed(e) {
		if !walk(kid, yield) {
			return false
		}
	}
	return true
}

func uses(form int) bool {
	return form == api.EVar || form == api.EWhen || form == api.EMerge
}

// needed answers the kids whose values of this tick are needed in it: what is
// kept for the next activation may come later.
func needed(e api.Exp) []api.Exp {
	switch e.Form {
	case api.ELit, api.EVar, api.ETick, api.EPre:
		return nil
	case api.EFby:
		return e.Kids[:min(1, len(e.Kids))]
	}
	return e.Kids
}

// edges tells the names of a clock's variables.
func edges(clock []api.Edge) iter.Seq[string] {
	return func(yield func(string) bool) {
		for _, edge := range clock {
			if !yield(edge.Name) {
				return
			}
		}
	}
}
