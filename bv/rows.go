package bv

import "metronome/api"

// Of which kinds an operation is. That of the zero row is none, so that an
// operation without a row is refused as one of the wrong kind is.
const (
	ofNone = iota
	ofBool
	ofNumbers
	ofAll
)

// unaryRow is an operation on one value: of which kinds it is, what it does.
type unaryRow struct {
	of int
	do func(a value) int
}

// binaryRow is an operation on two values; a test answers a Bool of any kind.
type binaryRow struct {
	of   int
	test bool
	do   func(a, b value) int
}

// unaryTask is an operation together with the value that it is to work on.
type unaryTask struct {
	do func(a value) int
	a  value
}

func (t unaryTask) run() int { return t.do(t.a) }

// binaryTask is an operation together with the two values.
type binaryTask struct {
	do   func(a, b value) int
	a, b value
}

func (t binaryTask) run() int { return t.do(t.a, t.b) }

// castTask is a value together with the kind that it is to become one of.
type castTask struct {
	to int
	a  value
}

func (t castTask) run() int {
	if t.to == api.Bool {
		return bit(t.a.n != 0)
	}
	return t.a.n
}

func takes(of, kind int) bool {
	switch of {
	case ofBool:
		return kind == api.Bool
	case ofNumbers:
		return kind != api.Bool && Width(kind) > 0
	case ofAll:
		return Width(kind) > 0
	}
	return false
}

func unaryOf(op int) unaryRow {
	rows := [...]unaryRow{
		api.OpNot: {ofAll, value.not},
		api.OpNeg: {ofNumbers, value.neg},
	}
	if op < 0 || op >= len(rows) {
		return unaryRow{}
	}
	return rows[op]
}

func binaryOf(op int) binaryRow {
	rows := [...]binaryRow{
		api.OpAdd: {ofNumbers, false, value.add},
		api.OpSub: {ofNumbers, false, value.sub},
		api.OpMul: {ofNumbers, false, value.mul},
		api.OpDiv: {ofNumbers, false, value.div},
		api.OpMod: {ofNumbers, false, value.mod},
		api.OpAnd: {ofAll, false, value.and},
		api.OpOr:  {ofAll, false, value.or},
		api.OpXor: {ofAll, false, value.xor},
		api.OpImp: {ofBool, false, value.imp},
		api.OpShl: {ofNumbers, false, value.shl},
		api.OpShr: {ofNumbers, false, value.shr},
		api.OpEq:  {ofAll, true, value.eq},
		api.OpNe:  {ofAll, true, value.ne},
		api.OpLt:  {ofNumbers, true, value.lt},
		api.OpLe:  {ofNumbers, true, value.le},
		api.OpGt:  {ofNumbers, true, value.gt},
		api.OpGe:  {ofNumbers, true, value.ge},
	}
	if op < 0 || op >= len(rows) {
		return binaryRow{}
	}
	return rows[op]
}
