// Package bv is layer 1: values of a fixed width, each of which stands as an int.
package bv

import "metronome/api"

// Wrap answers the value of the kind whose bits are n's lower ones; 0 of no kind.
func Wrap(kind, n int) int {
	switch kind {
	case api.Bool:
		return n & 1
	case api.I8:
		return int(int8(n))
	case api.I16:
		return int(int16(n))
	case api.I32:
		return int(int32(n))
	case api.U8:
		return int(uint8(n))
	case api.U16:
		return int(uint16(n))
	case api.U32:
		return int(uint32(n))
	case api.I64, api.U64:
		return n
	}
	return 0
}

// Is tells whether n is a value of the kind. The width is asked, too, because
// Wrap leaves 0 as it is even where the kind is none, which has no value.
func Is(kind, n int) bool {
	return Width(kind) > 0 && Wrap(kind, n) == n
}

// Width answers how many bits a value of the kind has; 0 of no kind.
func Width(kind int) int {
	width := 8
	switch kind {
	case api.I64, api.U64:
		width <<= 1
		fallthrough
	case api.I32, api.U32:
		width <<= 1
		fallthrough
	case api.I16, api.U16:
		width <<= 1
		fallthrough
	case api.I8, api.U8:
		return width
	case api.Bool:
		return 1
	}
	return 0
}

// Un works out an operation on one value of a kind.
func Un(op, kind, a int) (int, bool) {
	row := unaryOf(op)
	if !takes(row.of, kind) {
		return 0, false
	}
	return settle(kind, kind, unaryTask{row.do, value{kind, a}}.run, a)
}

// Bin works out an operation on two values of one kind: the value, and its kind.
func Bin(op, kind, a, b int) (int, int, bool) {
	row := binaryOf(op)
	if !takes(row.of, kind) {
		return 0, 0, false
	}
	to := kind
	if row.test {
		to = api.Bool
	}
	n, ok := settle(kind, to, binaryTask{row.do, value{kind, a}, value{kind, b}}.run, a, b)
	if !ok {
		return 0, 0, false
	}
	return n, to, true
}

// Cast answers what a value of one kind is as a value of another.
func Cast(from, to, a int) (int, bool) {
	if Width(to) == 0 {
		return 0, false
	}
	return settle(from, to, castTask{to, value{from, a}}.run, a)
}

// Zero answers the value that a variable of the kind has at first.
func Zero(kind int) int { return 0 }

// settle runs the work, once its operands are known to be values of their
// kind, and wraps what it answers into the kind to: the work itself need not
// look at either.
func settle(kind, to int, work func() int, operands ...int) (int, bool) {
	for _, n := range operands {
		if !Is(kind, n) {
			return 0, false
		}
	}
	return Wrap(to, work()), true
}
