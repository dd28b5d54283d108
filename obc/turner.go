package obc

import (
	"metronome/api"
)

// sized is an expression of step code, and how many parts it has.
type sized struct {
	api.CExp
	parts int
}

func ref(name string) api.CExp { return api.CExp{Form: api.EVar, Name: name} }

func lit(kind, n int) api.CExp { return api.CExp{Form: api.ELit, Kind: kind, N: n} }

func un(op int, kid api.CExp) api.CExp {
	return api.CExp{Form: api.EUn, Sub: op, Kids: []api.CExp{kid}}
}

func bin(op int, a, b api.CExp) api.CExp {
	return api.CExp{Form: api.EBin, Sub: op, Kids: []api.CExp{a, b}}
}

// turner answers what turns expressions that are worked out behind a gate into
// those of step code. One has more parts than it had, by what EMerge asks: what
// is too much then is held by variables ahead of it. There are at most two of
// these: of at most 999 EMerges come no more than 2,999 parts, and each variable
// takes the place of more than 666.
func (m *maker) turner(g gate) func(api.CExp) sized {
	hold := func(s sized) sized {
		kind, _ := m.slots.kindOf(s.CExp)
		name := m.addVariable(kind)
		m.set(g, name, s.CExp)
		return sized{ref(name), 1}
	}
	var turn func(api.CExp) sized
	turn = func(e api.CExp) sized {
		var kids []sized
		switch e.Form {
		case api.EWhen:
			return turn(e.Kids[0])
		case api.EMerge:
			kids = append(kids, sized{ref(e.Name), 1})
		}
		for _, kid := range e.Kids {
			kids = append(kids, turn(kid))
		}
		return joined(bare(e), lightened(kids, hold))
	}
	return turn
}

// lightened has the greatest kids held until all of them may stand in one
// expression.
func lightened(kids []sized, hold func(sized) sized) []sized {
	for {
		sum, greatest := 0, 0
		for i, kid := range kids {
			sum += kid.parts
			if kid.parts > kids[greatest].parts {
				greatest = i
			}
		}
		if sum < maxParts {
			return kids
		}
		kids[greatest] = hold(kids[greatest])
	}
}

func joined(e api.CExp, kids []sized) sized {
	whole := sized{e, 1}
	for _, kid := range kids {
		whole.Kids = append(whole.Kids, kid.CExp)
		whole.parts += kid.parts
	}
	return whole
}

// bare answers a part without its kids that has nothing but what its form has.
// An EMerge is a choice by a variable: just one of its kids is there.
func bare(e api.CExp) api.CExp {
	switch e.Form {
	case api.ELit:
		return lit(e.Kind, e.N)
	case api.EVar:
		return ref(e.Name)
	case api.EUn, api.EBin:
		return api.CExp{Form: e.Form, Sub: e.Sub}
	case api.ECast:
		return api.CExp{Form: e.Form, Kind: e.Kind}
	}
	return api.CExp{Form: api.EIf}
}
