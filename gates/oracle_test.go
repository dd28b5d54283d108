package gates_test

import (
	"testing"

	"metronome/api"
	"metronome/bv"
)

// told is what Eval is to tell of a net that is not too long: each wire is asked for, from its gate down.
func told(n api.Net, ins []bool) ([]bool, api.Errno) {
	count := 0
	nth := make([]int, len(n.Gates))
	for at, g := range n.Gates {
		single := g.Op == 1 || g.Op == 2
		double := g.Op == 3
		switch {
		case !single && !double, single && (g.A != 0 || g.B != 0), double && (min(g.A, g.B) < 0 || max(g.A, g.B) > 2*at-1):
			return nil, api.ErrForm
		case g.Op == 2:
			nth[at] = count
			count++
		}
	}
	if len(ins) != count {
		return nil, api.ErrCount
	}
	known := map[int]bool{}
	var wire func(w int) bool
	wire = func(w int) bool {
		if w%2 == 1 {
			return !wire(w - 1)
		}
		if holds, ok := known[w]; ok {
			return holds
		}
		g := n.Gates[w/2]
		known[w] = g.Op == 2 && ins[nth[w/2]] || g.Op == 3 && wire(g.A) && wire(g.B)
		return known[w]
	}
	var values []bool
	for at := range n.Gates {
		values = append(values, wire(2*at))
	}
	return values, api.OK
}

// lanes are as many as 64 rows of values that go through a net at once: one bit of each word for each row.
type lanes struct {
	t     *testing.T
	n     api.Net
	wires []int
	rows  [][]int // of each row its operands
	kind  int     // that they are of
}

// check holds each row's answer to what is wanted of it.
func (l *lanes) check(to int, want func(row []int) int) {
	l.t.Helper()
	words := l.run()
	for i, row := range l.rows {
		n := 0
		for bit, w := range l.wires {
			n |= int(words[w/2]>>i&1^uint64(w%2)) << bit
		}
		if n = bv.Wrap(to, n); n != want(row) {
			l.t.Fatalf("kind %d, %v: %d, not %d", l.kind, row, n, want(row))
		}
	}
	l.rows = nil
}

func (l *lanes) run() []uint64 {
	words := make([]uint64, len(l.n.Gates))
	wire := func(w int) uint64 { return words[w/2] ^ -uint64(w%2) }
	width := bv.Width(l.kind)
	for at, g := range l.n.Gates {
		switch g.Op {
		case 2:
			for i, row := range l.rows {
				words[at] |= uint64(row[at/width]) >> (at % width) & 1 << i
			}
		case 3:
			words[at] = wire(g.A) & wire(g.B)
		}
	}
	return words
}

// add takes a row, and checks as many as are full.
func (l *lanes) add(to int, want func(row []int) int, row ...int) {
	l.t.Helper()
	l.rows = append(l.rows, row)
	if len(l.rows) == 64 {
		l.check(to, want)
	}
}
