package bv

import "metronome/api"

// value is a value of a kind. Its methods are the operations; the other value
// is of the same kind. They work on all 64 bits of the int, whose lower ones
// are right: settle cuts the rest off.
type value struct{ kind, n int }

func (a value) unsigned() bool { return a.kind >= api.U8 }

func (a value) not() int { return ^a.n }
func (a value) neg() int { return -a.n }

func (a value) add(b value) int { return a.n + b.n }
func (a value) sub(b value) int { return a.n - b.n }
func (a value) mul(b value) int { return a.n * b.n }

func (a value) div(b value) int {
	switch {
	case b.n == 0:
		return 0
	case a.unsigned():
		return int(uint64(a.n) / uint64(b.n))
	}
	return a.n / b.n
}

func (a value) mod(b value) int {
	switch {
	case b.n == 0:
		return 0
	case a.unsigned():
		return int(uint64(a.n) % uint64(b.n))
	}
	return a.n % b.n
}

func (a value) and(b value) int { return a.n & b.n }
func (a value) or(b value) int  { return a.n | b.n }
func (a value) xor(b value) int { return a.n ^ b.n }
func (a value) imp(b value) int { return ^a.n | b.n }

// places answers by how many places b moves bits. A b below 0 is, by its bits,
// at least as great as the width; as an int of 64 bits it is so all the more.
func (b value) places() uint64 { return uint64(b.n) }

// A width or more moved up leaves no bit of the kind.
func (a value) shl(b value) int { return a.n << b.places() }

// The int of a narrow kind goes on with its sign, or with noughts, as the kind
// asks: only the 64 bits of a U64 have to be told from a number with a sign.
func (a value) shr(b value) int {
	if a.unsigned() {
		return int(uint64(a.n) >> b.places())
	}
	return a.n >> b.places()
}

func (a value) less(b value) bool {
	if a.unsigned() {
		return uint64(a.n) < uint64(b.n)
	}
	return a.n < b.n
}

func (a value) eq(b value) int { return bit(a.n == b.n) }
func (a value) ne(b value) int { return bit(a.n != b.n) }
func (a value) lt(b value) int { return bit(a.less(b)) }
func (a value) le(b value) int { return bit(!b.less(a)) }
func (a value) gt(b value) int { return bit(b.less(a)) }
func (a value) ge(b value) int { return bit(!a.less(b)) }

func bit(holds bool) int {
	if holds {
		return 1
	}
	return 0
}
