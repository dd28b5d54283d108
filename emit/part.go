package emit

import (
	"metronome/api"
	"metronome/bv"
)

// part is an expression that can be laid: instructions are added that leave its
// value on the stack.
//
// least is how many values that needs on the stack, if of two kids the one that
// needs more always comes first. One more of it takes twice the parts: so it is
// at most 10, for obc.Check takes no more than 2,000. A part is only laid where
// there is room for so many.
type part struct {
	kind, least int
	lay         func()
}

// walk turns an expression from the inside: each part by what its kids have
// become.
func walk[T any](e api.CExp, turn func(e api.CExp, kids []T) T) T {
	var kids []T
	for _, kid := range e.Kids {
		kids = append(kids, walk(kid, turn))
	}
	return turn(e, kids)
}

// value adds what leaves the value of an expression on the stack.
func (m *maker) value(e api.CExp) { walk(e, m.part).lay() }

func (m *maker) part(e api.CExp, kids []part) part {
	switch e.Form {
	case api.EVar:
		at := m.slot(e.Name)
		return m.leaf(m.Kinds[at], api.Ins{Op: api.ILoad, N: at})
	case api.EUn:
		of := kids[0].kind
		return m.behind(kids[0], of, api.Ins{Op: api.IUn, N: e.Sub, K: of})
	case api.ECast:
		return m.behind(kids[0], e.Kind, api.Ins{Op: api.ICast, N: kids[0].kind, K: e.Kind})
	case api.EBin:
		return m.pair(e.Sub, kids[0], kids[1])
	case api.EIf:
		return m.choice(kids[0], kids[1], kids[2])
	}
	return m.leaf(e.Kind, api.Ins{Op: api.IPush, N: e.N, K: e.Kind})
}

func (m *maker) leaf(kind int, in api.Ins) part {
	return part{kind, 1, func() { m.add(in) }}
}

// behind answers the part that an instruction behind its kid makes.
func (m *maker) behind(kid part, kind int, in api.Ins) part {
	return part{kind, kid.least, func() {
		kid.lay()
		m.add(in)
	}}
}

// choice needs no more than one of its kids: the condition is off the stack when
// one of the others comes.
func (m *maker) choice(cond, yes, no part) part {
	return part{yes.kind, max(cond.least, yes.least, no.least), func() {
		cond.lay()
		unless := m.jump(api.IFalse)
		yes.lay()
		over := m.jump(api.IJump)
		m.high-- // the other one's value comes in the place of this one's
		unless()
		no.lay()
		over()
	}}
}

// pair lays its kids in their order, unless there is no room for the second one
// on top of the first.
func (m *maker) pair(op int, first, second part) part {
	_, kind, _ := bv.Bin(op, first.kind, bv.Zero(first.kind), bv.Zero(first.kind))
	least := max(first.least, second.least)
	if first.least == second.least {
		least++
	}
	return part{kind, least, func() {
		if second.least >= m.room() {
			m.turned(op, first, second)
			return
		}
		first.lay()
		second.lay()
		m.add(api.Ins{Op: api.IBin, N: op, K: first.kind})
	}}
}
