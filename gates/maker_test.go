package gates_test

import (
	"math"
	"math/rand"

	"metronome/api"
	"metronome/bv"
)

// maker makes nets, inputs and values, the same of the same seed.
type maker struct{ r *rand.Rand }

func newMaker(seed int) *maker { return &maker{rand.New(rand.NewSource(int64(seed)))} }

func pick[T any](m *maker, list ...T) T { return list[m.r.Intn(len(list))] }

func (m *maker) net() (n api.Net) {
	for at := range m.r.Intn(40) {
		switch choice := m.r.Intn(8); {
		case choice == 0:
			n.Gates = append(n.Gates, zero())
		case choice < 3 || at == 0:
			n.Gates = append(n.Gates, input())
		default:
			n.Gates = append(n.Gates, and(m.r.Intn(2*at), m.r.Intn(2*at)))
		}
	}
	return n
}

// spoil changes one thing; now and then it is right nevertheless.
func (m *maker) spoil(n api.Net) {
	if len(n.Gates) == 0 {
		return
	}
	at := m.r.Intn(len(n.Gates))
	g := &n.Gates[at]
	number := pick(m, 0, 1, -1, 2*at, 2*at+1, 2*at-1, 2*at+2, m.r.Intn(100), math.MaxInt, math.MinInt)
	*pick(m, &g.Op, &g.A, &g.B) = number
}

// inputs are as many as the net has, or nearly so.
func (m *maker) inputs(n api.Net) (ins []bool) {
	count := pick(m, 0, 0, 0, 0, 0, 0, 1, -1)
	for _, g := range n.Gates {
		if g.Op == 2 {
			count++
		}
	}
	for range count {
		ins = append(ins, m.r.Intn(2) == 0)
	}
	return ins
}

// value is one of the kind: near an end, near 0, with one bit that differs from the others, or any one.
func (m *maker) value(kind int) int {
	width := bv.Width(kind)
	return bv.Wrap(kind, pick(m, 0, 1, -1, 2, m.r.Intn(9)-4, m.r.Intn(2*width+2), 1<<m.r.Intn(width), ^(1<<m.r.Intn(width)), 1<<m.r.Intn(width)-1, 1<<(width-1), 1<<(width-1)-1, int(m.r.Uint64()), int(m.r.Uint64()), int(m.r.Uint64()>>m.r.Intn(64))))
}
