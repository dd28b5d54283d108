package gates_test

import (
	"math"
	"slices"
	"testing"

	"metronome/api"
	"metronome/bv"
	"metronome/gates"
)

// operation is one that bv knows: on how many values of which kind, of which kind its answer is, and what bv tells.
type operation struct {
	op, kind, count, to int
	want                func(row []int) int
}

func operations() (all []operation) {
	for kind := api.Bool; kind <= api.U64; kind++ {
		for op := api.OpNot; op <= api.OpGe; op++ {
			if _, ok := bv.Un(op, kind, 0); ok {
				all = append(all, operation{op, kind, 1, kind, func(row []int) int { n, _ := bv.Un(op, kind, row[0]); return n }})
			}
			if _, to, ok := bv.Bin(op, kind, 0, 0); ok {
				all = append(all, operation{op, kind, 2, to, func(row []int) int { n, _, _ := bv.Bin(op, kind, row[0], row[1]); return n }})
			}
		}
	}
	return all
}

// formed holds a net to its form: the inputs in the first places, as many as the bits of so many values, and wires of it, as many as the bits of an answer.
func formed(t *testing.T, n api.Net, wires []int, ok bool, kind, count, to int) {
	t.Helper()
	ins := count * bv.Width(kind)
	if e := gates.Check(n); !ok || e != api.OK || len(n.Gates) < ins || len(wires) != bv.Width(to) {
		t.Fatalf("kind %d to %d: %v, error %d, %d gates, %d wires", kind, to, ok, e, len(n.Gates), len(wires))
	}
	for at, g := range n.Gates {
		if (g.Op == 2) != (at < ins) {
			t.Fatalf("kind %d to %d: gate %d is %v", kind, to, at, g)
		}
	}
	for _, w := range wires {
		if w < 0 || w >= 2*len(n.Gates) {
			t.Fatalf("kind %d to %d: %d is no wire", kind, to, w)
		}
	}
}

// TestP2202Known: of an operation that bv knows there is a net, of others there is nothing.
func TestP2202Known(t *testing.T) {
	known := 0
	numbers := []int{-300, 255, 256, 257, 258, 1000, math.MaxInt, math.MinInt, math.MinInt + 1, 1 << 32, 1<<32 + 2}
	for n := -3; n < 30; n++ {
		numbers = append(numbers, n)
	}
	for _, op := range numbers {
		for _, kind := range numbers {
			for _, two := range []bool{false, true} {
				count, to := 1, kind
				_, want := bv.Un(op, kind, 0)
				if two {
					count = 2
					_, to, want = bv.Bin(op, kind, 0, 0)
				}
				n, wires, ok := gates.Op(op, kind, two)
				if !want {
					if ok || n.Gates != nil || wires != nil {
						t.Fatalf("%d, %d, %v: %v, %v, %v", op, kind, two, n, wires, ok)
					}
					continue
				}
				known++
				formed(t, n, wires, ok, kind, count, to)
			}
		}
	}
	if known != 9+8+5*8+3*9+1+2*8+2*9+4*8 || known != len(operations()) {
		t.Error(known, len(operations()))
	}
}

// TestP2202All: each operation on all values of the narrow kinds.
func TestP2202All(t *testing.T) {
	for _, o := range operations() {
		width := bv.Width(o.kind)
		if width > 8 {
			continue
		}
		n, wires, _ := gates.Op(o.op, o.kind, o.count == 2)
		l := &lanes{t: t, n: n, wires: wires, kind: o.kind}
		for a := range 1 << width {
			if o.count == 1 {
				l.add(o.to, o.want, bv.Wrap(o.kind, a))
				continue
			}
			for b := range 1 << width {
				l.add(o.to, o.want, bv.Wrap(o.kind, a), bv.Wrap(o.kind, b))
			}
		}
		l.check(o.to, o.want)
	}
}

// ends are values at which something turns in a kind: around 0, around the ends of each width, around the width's number.
func ends(kind int) (all []int) {
	for shift := range bv.Width(kind) {
		for _, n := range []int{1 << shift, 1<<shift - 1, 1<<shift + 1} {
			all = append(all, bv.Wrap(kind, n), bv.Wrap(kind, -n))
		}
	}
	slices.Sort(all)
	return slices.Compact(all)
}

// TestP2202Ends: each operation on values of the wide kinds at which something turns.
func TestP2202Ends(t *testing.T) {
	for _, o := range operations() {
		n, wires, _ := gates.Op(o.op, o.kind, o.count == 2)
		l := &lanes{t: t, n: n, wires: wires, kind: o.kind}
		some := ends(o.kind)
		for i, a := range some {
			if o.count == 1 {
				l.add(o.to, o.want, a)
				continue
			}
			for j, b := range some {
				// of the great nets not each pair, but each value on either side
				if len(n.Gates) < 1000 || (i+j)%5 == 0 || a == b || a == -b {
					l.add(o.to, o.want, a, b)
				}
			}
		}
		l.check(o.to, o.want)
	}
}

// TestP2202Any: each operation on made values of all kinds; also as Eval tells it.
func TestP2202Any(t *testing.T) {
	for i, o := range operations() {
		n, wires, _ := gates.Op(o.op, o.kind, o.count == 2)
		l := &lanes{t: t, n: n, wires: wires, kind: o.kind}
		m := newMaker(i)
		for range 6400 {
			row := []int{m.value(o.kind), m.value(o.kind)}
			if m.r.Intn(10) == 0 {
				row[1] = row[0]
			}
			l.add(o.to, o.want, row[:o.count]...)
		}
		for range 10 {
			row := []int{m.value(o.kind), m.value(o.kind)}[:o.count]
			if got := asked(t, n, wires, o.kind, o.to, row); got != o.want(row) {
				t.Fatalf("operation %d, kind %d, %v: %d, not %d", o.op, o.kind, row, got, o.want(row))
			}
		}
	}
}

// asked is the value that Eval tells.
func asked(t *testing.T, n api.Net, wires []int, kind, to int, row []int) int {
	t.Helper()
	var ins []bool
	for _, value := range row {
		for bit := range bv.Width(kind) {
			ins = append(ins, value>>bit&1 == 1)
		}
	}
	values, e := gates.Eval(n, ins)
	if e != api.OK {
		t.Fatalf("error %d", e)
	}
	got := 0
	for bit, w := range wires {
		if values[w/2] != (w%2 == 1) {
			got |= 1 << bit
		}
	}
	return bv.Wrap(to, got)
}

// TestP2203Known: of two kinds there is a net, else there is nothing.
func TestP2203Known(t *testing.T) {
	known := 0
	numbers := []int{-5, -1, 0, 10, 11, 100, 256 + api.I8, 1<<32 + api.Bool, math.MaxInt, math.MinInt}
	for kind := api.Bool; kind <= api.U64; kind++ {
		numbers = append(numbers, kind)
	}
	for _, from := range numbers {
		for _, to := range numbers {
			n, wires, ok := gates.Cast(from, to)
			if bv.Width(from) == 0 || bv.Width(to) == 0 {
				if ok || n.Gates != nil || wires != nil {
					t.Fatalf("%d to %d: %v, %v, %v", from, to, n, wires, ok)
				}
				continue
			}
			known++
			formed(t, n, wires, ok, from, 1, to)
		}
	}
	if known != 81 {
		t.Error(known)
	}
}

// TestP2203Cast: each cast, of all values of the narrow kinds, of others those at which something turns, and made ones.
func TestP2203Cast(t *testing.T) {
	for from := api.Bool; from <= api.U64; from++ {
		for to := api.Bool; to <= api.U64; to++ {
			n, wires, _ := gates.Cast(from, to)
			l := &lanes{t: t, n: n, wires: wires, kind: from}
			want := func(row []int) int { n, _ := bv.Cast(from, to, row[0]); return n }
			if width := bv.Width(from); width <= 16 {
				for a := range 1 << width {
					l.add(to, want, bv.Wrap(from, a))
				}
			}
			for _, a := range ends(from) {
				l.add(to, want, a)
			}
			m := newMaker(from*10 + to)
			for range 1000 {
				l.add(to, want, m.value(from))
			}
			l.check(to, want)
			for range 10 {
				row := []int{m.value(from)}
				if got := asked(t, n, wires, from, to, row); got != want(row) {
					t.Fatalf("%d to %d, %v: %d, not %d", from, to, row, got, want(row))
				}
			}
		}
	}
}
