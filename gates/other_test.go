package gates_test

import (
	"slices"
	"sync"
	"testing"

	"metronome/api"
	"metronome/gates"
)

// whole is a list with its spare room.
func whole[T any](list []T) []T { return slices.Clone(list[:cap(list)]) }

// scribble writes over a list, and over its spare room.
func scribble[T any](list []T, mark T) {
	for i := range list[:cap(list)] {
		list[:cap(list)][i] = mark
	}
}

// TestP2204Given: what is handed in is not changed, nor is its spare room, and an answer has nothing in common with it.
func TestP2204Given(t *testing.T) {
	for seed := range 2000 {
		m := newMaker(seed)
		n := m.net()
		if m.r.Intn(4) == 0 {
			m.spoil(n)
		}
		ins := m.inputs(n)
		n.Gates = append(slices.Clone(n.Gates), api.Gate{Op: 55}, api.Gate{A: 66})[:len(n.Gates)]
		ins = append(slices.Clone(ins), true, false, true)[:len(ins)]
		list, bits := whole(n.Gates), whole(ins)
		gates.Check(n)
		values, _ := gates.Eval(n, ins)
		if !slices.Equal(whole(n.Gates), list) || !slices.Equal(whole(ins), bits) {
			t.Fatalf("%v, %v, no longer %v, %v", whole(n.Gates), whole(ins), list, bits)
		}
		kept := slices.Clone(values)
		scribble(n.Gates, api.Gate{Op: 77})
		scribble(ins, len(ins)%2 == 0)
		if !slices.Equal(values, kept) {
			t.Fatalf("%v, no longer %v", values, kept)
		}
		copy(n.Gates, list)
		copy(ins, bits)
		scribble(values, seed%2 == 0)
		if again, _ := gates.Eval(n, ins); !slices.Equal(again, kept) || !slices.Equal(n.Gates, list[:len(n.Gates)]) || !slices.Equal(ins, bits[:len(ins)]) {
			t.Fatalf("%v, then %v", kept, again)
		}
	}
}

// answer is what Op or Cast tells.
type answer struct {
	n     api.Net
	wires []int
	ok    bool
}

// asks are all calls of Op and Cast that have a net.
func asks() (all []func() answer) {
	for _, o := range operations() {
		all = append(all, func() answer {
			n, wires, ok := gates.Op(o.op, o.kind, o.count == 2)
			return answer{n, wires, ok}
		})
	}
	for from := api.Bool; from <= api.U64; from++ {
		for to := api.Bool; to <= api.U64; to++ {
			all = append(all, func() answer {
				n, wires, ok := gates.Cast(from, to)
				return answer{n, wires, ok}
			})
		}
	}
	return all
}

// TestP2202P2203Few: no gate stands twice, and none that is no input stands for nothing.
func TestP2202P2203Few(t *testing.T) {
	for _, ask := range asks() {
		a := ask()
		twice := map[api.Gate]bool{}
		used := map[int]bool{}
		for _, w := range a.wires {
			used[w/2] = true
		}
		for at := len(a.n.Gates) - 1; at >= 0 && a.n.Gates[at].Op != 2; at-- {
			g := a.n.Gates[at]
			if twice[g] || !used[at] {
				t.Fatalf("%v: gate %d", a, at)
			}
			twice[g] = true
			if g.Op == 3 {
				used[g.A/2], used[g.B/2] = true, true
			}
		}
	}
}

func same(a, b answer) bool {
	return a.ok == b.ok && slices.Equal(a.n.Gates, b.n.Gates) && slices.Equal(a.wires, b.wires)
}

// TestP2204New: each answer is new memory, so that one that was written over does not turn the next.
func TestP2204New(t *testing.T) {
	for _, ask := range asks() {
		a := ask()
		kept := answer{api.Net{Gates: slices.Clone(a.n.Gates)}, slices.Clone(a.wires), a.ok}
		b := ask()
		scribble(a.n.Gates, api.Gate{Op: 77})
		scribble(a.wires, -5)
		if c := ask(); !same(b, kept) || !same(c, kept) {
			t.Fatalf("%v, then %v, then %v", kept, b, c)
		}
	}
}

// TestP2204Alone: what is answered does not hang on what was asked ahead, or is asked at the same time.
func TestP2204Alone(t *testing.T) {
	list := asks()
	want := make([]answer, len(list))
	for i, ask := range list {
		want[i] = ask()
	}
	var all sync.WaitGroup
	for start := range 4 {
		all.Go(func() {
			for i := range list {
				i := (i*7919 + start*len(list)/4) % len(list)
				if got := list[i](); !same(got, want[i]) {
					t.Errorf("%d: %v, then %v", i, want[i], got)
				}
			}
		})
	}
	all.Wait()
	if len(list)%7919 == 0 {
		t.Error("not each was asked")
	}
}
