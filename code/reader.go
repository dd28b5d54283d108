package code

import (
	"bytes"

	"metronome/api"
)

// reader reads numbers. Each stands in one way only, so code that was read to
// its last byte is told by Write as just these bytes, if Check takes it.
type reader struct {
	number func() (int, bool)
	atEnd  func() bool
}

func newReader(b []byte) reader {
	at := 0
	number := func() (int, bool) {
		z := uint64(0)
	digits:
		for shift := 0; shift < 64 && at < len(b); shift += digitBits {
			digit := b[at]
			at++
			z |= uint64(digit&^more) << shift
			switch {
			case digit&more != 0:
				continue digits
			case digit == 0 && shift > 0: // fewer bytes would do
				break digits
			case uint64(digit)<<shift>>shift != uint64(digit): // more than 64 bits
				break digits
			}
			return unzigzag(z), true
		}
		return 0, false
	}
	return reader{number: number, atEnd: func() bool { return at == len(b) }}
}

// codeOf reads code, which Check has not seen yet.
func codeOf(b []byte) (c api.Code, ok bool) {
	rest, ok := bytes.CutPrefix(b, []byte(mark))
	if !ok {
		return c, false
	}
	r := newReader(rest)
	slots, ok := r.number()
	if !ok || !r.numbers(&c.Ins, &c.Outs, &c.Cells, &c.Stack) {
		return c, false
	}
	if c.Kinds, ok = list(slots, api.MaxCells, r.number); !ok {
		return c, false
	}
	if c.Init, ok = list(c.Cells, slots, r.number); !ok {
		return c, false
	}
	length, ok := r.number()
	if !ok {
		return c, false
	}
	c.Body, ok = list(length, api.MaxCode, r.instruction)
	return c, ok && r.atEnd()
}

func (r reader) instruction() (in api.Ins, ok bool) {
	ok = r.numbers(&in.Op, &in.N, &in.K)
	return in, ok
}

func (r reader) numbers(places ...*int) (ok bool) {
	for _, place := range places {
		if *place, ok = r.number(); !ok {
			return false
		}
	}
	return true
}

// list reads n items. Of more than Check takes none is looked at.
func list[T any](n, most int, one func() (T, bool)) ([]T, bool) {
	if n < 0 || n > most {
		return nil, false
	}
	var all []T
	for range n {
		next, ok := one()
		if !ok {
			return nil, false
		}
		all = append(all, next)
	}
	return all, true
}
