package gates

import (
	"slices"

	"metronome/api"
	"metronome/bv"
)

// task is the values that an operation works on, each the wires of its bits,
// the lowest first. Its methods are the operations.
type task struct {
	net    *net
	a, b   []int
	signed bool
}

// newTask lays the inputs ahead of all other gates.
func newTask(kind int, two bool) task {
	n := &net{found: map[api.Gate]int{}}
	t := task{net: n, signed: isSigned(kind)}
	t.a = word(bv.Width(kind), n.input)
	if two {
		t.b = word(bv.Width(kind), n.input)
	}
	n.zero = n.gate(api.Gate{Op: opZero})
	return t
}

func isSigned(kind int) bool {
	switch kind {
	case api.I8, api.I16, api.I32, api.I64:
		return true
	}
	return false
}

// operations answers for each operation what makes its gates.
func operations() [api.OpGe + 1]func(task) []int {
	return [...]func(task) []int{
		api.OpNot: task.not,
		api.OpNeg: task.neg,
		api.OpAdd: task.add,
		api.OpSub: task.sub,
		api.OpMul: task.mul,
		api.OpDiv: task.div,
		api.OpMod: task.mod,
		api.OpAnd: task.and,
		api.OpOr:  task.or,
		api.OpXor: task.xor,
		api.OpImp: task.imp,
		api.OpShl: task.shl,
		api.OpShr: task.shr,
		api.OpEq:  task.eq,
		api.OpNe:  task.ne,
		api.OpLt:  task.lt,
		api.OpLe:  task.le,
		api.OpGt:  task.gt,
		api.OpGe:  task.ge,
	}
}

func (t task) not() []int { return opposite(t.a) }
func (t task) neg() []int { return t.net.turned(t.a, t.net.one()) }

func (t task) add() []int {
	wires, _ := t.net.sum(t.a, t.b, t.net.zero)
	return wires
}

func (t task) sub() []int {
	wires, _ := t.net.difference(t.a, t.b)
	return wires
}

func (t task) mul() []int { return t.net.product(t.a, t.b) }

func (t task) div() []int {
	quotient, _ := t.division()
	return quotient
}

func (t task) mod() []int {
	_, rest := t.division()
	return rest
}

func (t task) and() []int { return pairs(t.a, t.b, t.net.and) }
func (t task) or() []int  { return pairs(t.a, t.b, t.net.or) }
func (t task) xor() []int { return pairs(t.a, t.b, t.net.xor) }
func (t task) imp() []int { return pairs(t.a, t.b, t.net.imp) }

func (t task) shl() []int {
	return t.net.shifted(t.a, t.b, t.net.zero, func(i, by int) int { return i - by })
}

func (t task) shr() []int {
	return t.net.shifted(t.a, t.b, t.sign(t.a), func(i, by int) int { return i + by })
}

func (t task) eq() []int { return []int{t.net.equal(t.a, t.b)} }
func (t task) ne() []int { return opposite(t.eq()) }

func (t task) lt() []int { return []int{t.less(t.a, t.b)} }
func (t task) le() []int { return opposite(t.gt()) }
func (t task) gt() []int { return []int{t.less(t.b, t.a)} }
func (t task) ge() []int { return opposite(t.lt()) }

func (t task) cast(to int) []int {
	if to == api.Bool {
		return []int{t.net.any(t.a)}
	}
	return word(bv.Width(to), func(i int) int {
		if i < len(t.a) {
			return t.a[i]
		}
		return t.sign(t.a)
	})
}

// sign answers what tells that a value is below 0; of a kind without a sign
// that is none.
func (t task) sign(value []int) int {
	if t.signed {
		return value[len(value)-1]
	}
	return t.net.zero
}

// division divides the values without their signs: the least number's bits are
// right then, too.
func (t task) division() (quotient, rest []int) {
	below, of := t.sign(t.a), t.sign(t.b)
	quotient, rest = t.net.division(t.net.turned(t.a, below), t.net.turned(t.b, of))
	return t.net.turned(quotient, t.net.xor(below, of)), t.net.turned(rest, below)
}

func (t task) less(a, b []int) int { return t.net.below(t.ranked(a), t.ranked(b)) }

// ranked answers the bits of a value without a sign that stands among all as
// the value does.
func (t task) ranked(value []int) []int {
	value = slices.Clone(value)
	if top := len(value) - 1; t.signed {
		value[top] = not(value[top])
	}
	return value
}
