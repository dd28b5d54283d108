package core

import (
	"iter"

	"metronome/api"
)

// parts tells the parts of an expression, each ahead of its kids.
func parts(e api.CExp) iter.Seq[api.CExp] {
	return func(yield func(api.CExp) bool) { walk(e, yield) }
}

func walk(e api.CExp, yield func(api.CExp) bool) bool {
	if !yield(e) {
		return false
	}
	for _, kid := range e.Kids {
		if !walk(kid, yield) {
			return false
		}
	}
	return true
}

func only(name string) iter.Seq[string] {
	return func(yield func(string) bool) { yield(name) }
}

// edges tells the variables of a variable's clock.
func edges(v api.CVar) iter.Seq[string] {
	return func(yield func(string) bool) {
		for _, e := range v.Clock {
			if !yield(e.Name) {
				return
			}
		}
	}
}

// reads tells the variables that an equation names, but for Next: what a memory
// keeps is read behind the tick.
func reads(q api.CEq) iter.Seq[string] {
	return func(yield func(string) bool) {
		if q.Form == api.CMem && q.Reset != "" {
			yield(q.Reset)
		}
		if q.Form != api.CDef {
			return
		}
		for e := range parts(q.E) {
			switch e.Form {
			case api.EVar, api.EWhen, api.EMerge:
				if !yield(e.Name) {
					return
				}
			}
		}
	}
}

func (a *asker) knows(names iter.Seq[string]) bool {
	for name := range names {
		if _, ok := a.places[name]; !ok {
			return false
		}
	}
	return true
}
