package cnf_test

import (
	"slices"
	"sync"
	"testing"

	"metronome/api"
	"metronome/cnf"
)

// whole is a list with its spare room.
func whole[T any](list []T) []T { return slices.Clone(list[:cap(list)]) }

// scribble writes over a list, and over its spare room.
func scribble[T any](list []T, mark T) {
	for i := range list[:cap(list)] {
		list[:cap(list)][i] = mark
	}
}

// roomy is the list with spare room in which something stands.
func roomy[T any](list []T, marks ...T) []T {
	return append(slices.Clone(list), marks...)[:len(list)]
}

// wholeFormula is the formula with all spare room.
func wholeFormula(f api.Formula) (all [][]int) {
	for _, clause := range f.Clauses[:cap(f.Clauses)] {
		all = append(all, whole(clause))
	}
	return all
}

func alike(a, b [][]int) bool { return slices.EqualFunc(a, b, slices.Equal[[]int]) }

// TestP2305GivenFormula: a formula that is handed in is not changed, nor a model.
func TestP2305GivenFormula(t *testing.T) {
	for seed := range 2000 {
		m := newMaker(seed)
		f := m.formula()
		model := roomy(m.model(f), true, false)
		if m.r.Intn(4) == 0 {
			m.spoil(&f)
		}
		for i := range f.Clauses {
			f.Clauses[i] = roomy(f.Clauses[i], 55, 0, -66)
		}
		f.Clauses = roomy(f.Clauses, []int{77}, nil)
		list, values := wholeFormula(f), whole(model)
		cnf.Check(f)
		cnf.Holds(f, model)
		cnf.Text(f)
		if !alike(wholeFormula(f), list) || !slices.Equal(whole(model), values) {
			t.Fatalf("%v, no longer %v", wholeFormula(f), list)
		}
	}
}

// TestP2305GivenNet: a net and wires that are handed in are not changed, and an answer has nothing in common with them.
func TestP2305GivenNet(t *testing.T) {
	for seed := range 2000 {
		m := newMaker(seed)
		n := m.net()
		wires := m.wires(n)
		if m.r.Intn(8) == 0 {
			wires = append(wires, 2*len(n.Gates))
		}
		n.Gates, wires = roomy(n.Gates, api.Gate{Op: 55}, and(9, 9)), roomy(wires, 3, -3)
		list, numbers := whole(n.Gates), whole(wires)
		f, _ := cnf.Of(n, wires)
		if !slices.Equal(whole(n.Gates), list) || !slices.Equal(whole(wires), numbers) {
			t.Fatalf("%v, %v, no longer %v, %v", whole(n.Gates), whole(wires), list, numbers)
		}
		text := wantText(f)
		scribble(n.Gates, api.Gate{Op: 77})
		scribble(wires, 99)
		if wantText(f) != text {
			t.Fatalf("%v, no longer %q", f, text)
		}
	}
}

// apart tells whether no two clauses share memory: each is written over, with its spare room, and the others must stay.
func apart(f api.Formula) bool {
	for i, clause := range f.Clauses {
		all := wholeFormula(f)
		scribble(clause, 1000+i)
		for j, other := range wholeFormula(f) {
			if j != i && !slices.Equal(other, all[j]) {
				return false
			}
		}
	}
	return true
}

func TestP2305New(t *testing.T) {
	for seed := range 2000 {
		m := newMaker(seed)
		n := m.net()
		wires := m.wires(n)
		a, _ := cnf.Of(n, wires)
		want := wantText(a)
		b, _ := cnf.Of(n, wires)
		c, _, e := cnf.Parse(want)
		d, _, _ := cnf.Parse(want)
		if e != api.OK || !apart(a) || wantText(b) != want || !apart(c) || wantText(d) != want {
			t.Fatalf("%v, %v: %v, %v, %v, %v", n, wires, a, b, c, d)
		}
		again, _ := cnf.Of(n, wires)
		read, _, _ := cnf.Parse(want)
		if wantText(again) != want || wantText(read) != want {
			t.Fatalf("%q, then %v, %v", want, again, read)
		}
	}
}

// TestP2305Alone: what is answered does not hang on what was asked ahead, or is asked at the same time.
func TestP2305Alone(t *testing.T) {
	const count = 300
	ask := func(seed int) (text string, holds bool) {
		m := newMaker(seed)
		n := m.net()
		f, _ := cnf.Of(n, m.wires(n))
		g, _, e := cnf.Parse(m.garble(cnf.Text(f)))
		if e == api.OK {
			f = g
		}
		return cnf.Text(f), cnf.Holds(f, m.model(f))
	}
	texts, held := make([]string, count), make([]bool, count)
	for i := range count {
		texts[i], held[i] = ask(i)
	}
	var all sync.WaitGroup
	for start := range 4 {
		all.Go(func() {
			for i := range count {
				i := (i*7 + start*count/4) % count
				if text, holds := ask(i); text != texts[i] || holds != held[i] {
					t.Errorf("%d: %q, %v, then %q, %v", i, texts[i], held[i], text, holds)
				}
			}
		})
	}
	all.Wait()
}
