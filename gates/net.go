package gates

import (
	"slices"

	"metronome/api"
)

// net is a net that is being made. Each gate but the inputs stands in it once;
// zero is the wire of its constant.
type net struct {
	gates []api.Gate
	found map[api.Gate]int // the wire of each gate that is no input
	zero  int
}

func not(wire int) int { return wire ^ 1 }

// lay puts a gate behind the others, and answers its wire.
func (n *net) lay(g api.Gate) int {
	n.gates = append(n.gates, g)
	return 2 * (len(n.gates) - 1)
}

// input lays the input of a bit. Which bit that is, says the order in which
// inputs are laid.
func (n *net) input(int) int { return n.lay(api.Gate{Op: opInput}) }

// gate answers the wire of the gate, which is laid if it does not stand yet.
func (n *net) gate(g api.Gate) int {
	wire, ok := n.found[g]
	if !ok {
		wire = n.lay(g)
		n.found[g] = wire
	}
	return wire
}

func (n *net) one() int { return not(n.zero) }

func (n *net) and(a, b int) int {
	if a > b { // a gate is the same either way round
		a, b = b, a
	}
	switch {
	case a == n.zero || b == n.zero || a == not(b):
		return n.zero
	case a == n.one() || a == b:
		return b
	case b == n.one():
		return a
	}
	return n.gate(api.Gate{Op: opAnd, A: a, B: b})
}

func (n *net) or(a, b int) int { return not(n.and(not(a), not(b))) }

// xor has the and of both as a part, which an adder needs for its carry, too.
func (n *net) xor(a, b int) int {
	return n.and(not(n.and(a, b)), not(n.and(not(a), not(b))))
}

func (n *net) imp(a, b int) int { return n.or(not(a), b) }

// most is what at least two of the three are.
func (n *net) most(a, b, c int) int {
	return n.or(n.and(a, b), n.and(n.or(a, b), c))
}

// choice is then where asked holds, else other.
func (n *net) choice(asked, then, other int) int {
	if then == other {
		return then
	}
	return n.or(n.and(asked, then), n.and(not(asked), other))
}

// any tells whether one of the wires is 1. It begins at the last one, so that
// what is asked of a value's upper bits is a part of what is asked of more.
func (n *net) any(wires []int) int {
	held := n.zero
	for _, wire := range slices.Backward(wires) {
		held = n.or(held, wire)
	}
	return held
}

// swept answers the net without the gates on which none of the wires hangs,
// but with all inputs; and the wires, as they are in it.
func (n *net) swept(wires []int) (api.Net, []int) {
	needed := n.needed(wires)
	places := make([]int, len(n.gates))
	moved := func(wire int) int { return 2*places[wire/2] + wire%2 }
	var kept []api.Gate
	for at, g := range n.gates {
		if !needed[at] && g.Op != opInput {
			continue
		}
		if g.Op == opAnd {
			g.A, g.B = moved(g.A), moved(g.B)
		}
		places[at] = len(kept)
		kept = append(kept, g)
	}
	return api.Net{Gates: kept}, word(len(wires), func(i int) int { return moved(wires[i]) })
}

// needed tells of each gate whether one of the wires hangs on it.
func (n *net) needed(wires []int) []bool {
	needed := make([]bool, len(n.gates))
	for _, wire := range wires {
		needed[wire/2] = true
	}
	for at := len(n.gates) - 1; at >= 0; at-- {
		if g := n.gates[at]; needed[at] && g.Op == opAnd {
			needed[g.A/2], needed[g.B/2] = true, true
		}
	}
	return needed
}
