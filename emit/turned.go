package emit

import (
	"metronome/api"
)

// turning is how an operation is done whose second operand is below the first
// one on the stack: another operation, ahead of which one of the two may have to
// go through an operation on one value; that is 0, if it need not.
type turning struct {
	op, lower, upper int
}

// turningOf answers false of an operation that can't be done so.
func turningOf(op int) (turning, bool) {
	switch op {
	case api.OpLt:
		return turning{op: api.OpGt}, true
	case api.OpLe:
		return turning{op: api.OpGe}, true
	case api.OpGt:
		return turning{op: api.OpLt}, true
	case api.OpGe:
		return turning{op: api.OpLe}, true
	case api.OpSub:
		return turning{op: api.OpAdd, lower: api.OpNeg}, true
	case api.OpImp:
		return turning{op: api.OpOr, upper: api.OpNot}, true
	case api.OpDiv, api.OpMod, api.OpShl, api.OpShr:
		return turning{}, false
	}
	return turning{op: op}, true
}

// turned lays the second kid of an operation ahead of the first. Where that
// can't be done on the stack, a slot holds the second one's value meanwhile.
func (m *maker) turned(op int, first, second part) {
	kind := first.kind
	second.lay()
	t, ok := turningOf(op)
	if !ok {
		at, giveBack := m.borrow(kind)
		defer giveBack()
		m.add(api.Ins{Op: api.ISave, N: at})
		first.lay()
		m.add(api.Ins{Op: api.ILoad, N: at})
		m.add(api.Ins{Op: api.IBin, N: op, K: kind})
		return
	}
	m.unary(t.lower, kind)
	first.lay()
	m.unary(t.upper, kind)
	m.add(api.Ins{Op: api.IBin, N: t.op, K: kind})
}

func (m *maker) unary(op, kind int) {
	if op != 0 {
		m.add(api.Ins{Op: api.IUn, N: op, K: kind})
	}
}
