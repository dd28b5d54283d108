package gates

import "math/bits"

// word answers the wires of as many bits, the lowest first, each as told.
func word(width int, bit func(i int) int) []int {
	wires := make([]int, width)
	for i := range wires {
		wires[i] = bit(i)
	}
	return wires
}

// pairs answers what the gate makes of each two bits.
func pairs(a, b []int, gate func(a, b int) int) []int {
	return word(len(a), func(i int) int { return gate(a[i], b[i]) })
}

func opposite(a []int) []int {
	return word(len(a), func(i int) int { return not(a[i]) })
}

func (n *net) zeros(width int) []int {
	return word(width, func(int) int { return n.zero })
}

// masked answers a, or 0 where the wire is 0.
func (n *net) masked(a []int, wire int) []int {
	return word(len(a), func(i int) int { return n.and(a[i], wire) })
}

// sum answers a + b + carry, and what is carried beyond the last bit.
func (n *net) sum(a, b []int, carry int) ([]int, int) {
	wires := word(len(a), func(i int) int {
		half, into := n.xor(a[i], b[i]), carry
		carry = n.or(n.and(a[i], b[i]), n.and(half, into))
		return n.xor(half, into)
	})
	return wires, carry
}

// difference answers a - b, and whether b is no more than a, both without a
// sign.
func (n *net) difference(a, b []int) ([]int, int) {
	return n.sum(a, opposite(b), n.one())
}

// turned answers a, or 0 less a where the wire is 1.
func (n *net) turned(a []int, wire int) []int {
	flipped := word(len(a), func(i int) int { return n.xor(a[i], wire) })
	wires, _ := n.sum(flipped, n.zeros(len(a)), wire)
	return wires
}

func (n *net) product(a, b []int) []int {
	wires := n.zeros(len(a))
	for i, bit := range b {
		upper, _ := n.sum(wires[i:], n.masked(a[:len(a)-i], bit), n.zero)
		copy(wires[i:], upper)
	}
	return wires
}

// division answers a / b and the rest, of values without a sign; both 0, if b
// is 0. The rest has at most as many bits as were taken of a: what b has above
// these must be 0 for b to fit into it.
func (n *net) division(a, b []int) (quotient, rest []int) {
	quotient = make([]int, len(a))
	for i := len(a) - 1; i >= 0; i-- {
		rest = append([]int{a[i]}, rest...)
		less, fits := n.difference(rest, b[:len(rest)])
		fits = n.and(fits, not(n.any(b[len(rest):])))
		quotient[i] = fits
		rest = pairs(less, rest, func(then, other int) int { return n.choice(fits, then, other) })
	}
	divides := n.any(b)
	return n.masked(quotient, divides), n.masked(rest, divides)
}

// below tells whether a is less than b, both without a sign.
func (n *net) below(a, b []int) int {
	less := n.zero
	for i := range a {
		less = n.most(not(a[i]), b[i], less)
	}
	return less
}

// equal tells whether all bits are the same.
func (n *net) equal(a, b []int) int { return not(n.any(pairs(a, b, n.xor))) }

// shifted answers a's bits moved by b places: from tells where a bit comes from
// that moves by so many. The width is a power of 2, so that b's upper bits move
// all bits away.
func (n *net) shifted(a, b []int, fill int, from func(i, by int) int) []int {
	width := len(a)
	stages := bits.Len(uint(width)) - 1
	for stage, asked := range b[:stages] {
		last := a
		a = word(width, func(i int) int {
			moved := fill
			if at := from(i, 1<<stage); at >= 0 && at < width {
				moved = last[at]
			}
			return n.choice(asked, moved, last[i])
		})
	}
	far := n.any(b[stages:])
	return word(width, func(i int) int { return n.choice(far, fill, a[i]) })
}
