package cnf_test

import (
	"math"
	"slices"
	"testing"

	"metronome/api"
	"metronome/cnf"
)

func formula(vars int, clauses ...[]int) api.Formula {
	return api.Formula{Vars: vars, Clauses: clauses}
}

func ones(count int) []int { return slices.Repeat([]int{1}, count) }

func TestP2301Check(t *testing.T) {
	shared := make([][]int, 1<<17)
	for i := range shared {
		shared[i] = shared[0]
		if i == 0 {
			shared[0] = ones(api.MaxLits / 2)
		}
	}
	for i, x := range []struct {
		f    api.Formula
		want api.Errno
	}{
		{formula(0), api.OK},
		{formula(0, nil, []int{}), api.OK},
		{formula(3, []int{1, -2, 3}, nil, []int{-3, -3, 3}), api.OK},
		{formula(api.MaxGates, []int{api.MaxGates}, []int{-api.MaxGates}), api.OK},
		{formula(api.MaxGates + 1), api.ErrLong},
		{formula(math.MaxInt), api.ErrLong},
		{formula(-1), api.ErrForm},
		{formula(math.MinInt), api.ErrForm},
		{formula(math.MinInt, []int{math.MinInt}), api.ErrForm},
		{formula(-3, []int{-3}), api.ErrForm},
		{formula(-3, []int{2}), api.ErrForm},
		{formula(0, []int{1}), api.ErrForm},
		{formula(0, []int{0}), api.ErrForm},
		{formula(3, []int{1}, []int{2, 0, 3}), api.ErrForm},
		{formula(3, []int{4}), api.ErrForm},
		{formula(3, []int{-4}), api.ErrForm},
		{formula(3, []int{1}, nil, []int{2, -3, -4}), api.ErrForm},
		{formula(3, []int{math.MaxInt}), api.ErrForm},
		{formula(3, []int{math.MinInt}), api.ErrForm},
		{formula(3, []int{-math.MaxInt}), api.ErrForm},
		{formula(1, ones(api.MaxLits-1)), api.OK},
		{formula(1, ones(api.MaxLits)), api.ErrLong},
		{formula(1, ones(api.MaxLits-2), nil), api.OK},
		{formula(1, ones(api.MaxLits-1), nil), api.ErrLong},
		{formula(1, nil, ones(api.MaxLits-3), []int{}), api.OK},
		{formula(1, nil, ones(api.MaxLits-3), []int{1}), api.ErrLong},
		{formula(0, make([][]int, api.MaxLits)...), api.OK},
		{formula(0, make([][]int, api.MaxLits+1)...), api.ErrLong},
		{formula(-1, make([][]int, api.MaxLits+1)...), api.ErrLong},
		{formula(0, make([]int, api.MaxLits)), api.ErrLong},
		{formula(0, make([]int, api.MaxLits-1)), api.ErrForm},
		{formula(1, shared...), api.ErrLong},
	} {
		if e := cnf.Check(x.f); e != x.want {
			t.Errorf("%d: %v, not %v", i, e, x.want)
		}
	}
}

// TestP2301Made: formulas with one number that may be wrong.
func TestP2301Made(t *testing.T) {
	count := map[api.Errno]int{}
	for seed := range 5000 {
		m := newMaker(seed)
		f := m.formula()
		if e := cnf.Check(f); e != api.OK {
			t.Fatalf("%v: %v", f, e)
		}
		m.spoil(&f)
		want := api.OK
		for _, clause := range f.Clauses {
			for _, literal := range clause {
				if literal == 0 || literal == math.MinInt || max(literal, -literal) > f.Vars {
					want = api.ErrForm
				}
			}
		}
		if f.Vars < 0 {
			want = api.ErrForm
		}
		if f.Vars > api.MaxGates {
			want = api.ErrLong
		}
		if e := cnf.Check(f); e != want {
			t.Fatalf("%v: %v, not %v", f, e, want)
		}
		count[want]++
	}
	if len(count) != 3 {
		t.Errorf("not all was made: %v", count)
	}
}

func TestP2302Holds(t *testing.T) {
	f := formula(3, []int{1, -2}, []int{3, 3}, []int{2, -2})
	for i, x := range []struct {
		f     api.Formula
		model []bool
		want  bool
	}{
		{f, []bool{false, true, true, true}, true},
		{f, []bool{true, true, true, true}, true},
		{f, []bool{true, false, false, true}, true},
		{f, []bool{true, false, true, true}, false},
		{f, []bool{false, true, true, false}, false},
		{f, []bool{true, true, true}, false},
		{f, []bool{true, true, true, true, true}, false},
		{f, nil, false},
		{formula(3, []int{1, -2}, []int{3}, nil), []bool{true, true, true, true}, false},
		{formula(0), []bool{false}, true},
		{formula(0), []bool{true}, true},
		{formula(0), nil, false},
		{formula(0, nil), []bool{true}, false},
		{formula(-1), nil, false},
		{formula(-1), []bool{true}, false},
		{formula(math.MinInt), nil, false},
		{formula(math.MaxInt), nil, false},
		{formula(1, []int{1, 2}), []bool{true, true}, false},
		{formula(1, []int{1, 0}), []bool{true, true}, false},
		{formula(1, []int{1, math.MinInt}), []bool{true, true}, false},
		{formula(api.MaxGates), make([]bool, api.MaxGates+1), true},
		{formula(api.MaxGates + 1), make([]bool, api.MaxGates+2), false},
		{formula(1, ones(api.MaxLits-1)), []bool{false, true}, true},
		{formula(1, ones(api.MaxLits)), []bool{false, true}, false},
	} {
		if got := cnf.Holds(x.f, x.model); got != x.want {
			t.Errorf("%d: %v", i, got)
		}
	}
}

func TestP2302Made(t *testing.T) {
	count := [2]int{}
	for seed := range 20000 {
		m := newMaker(seed)
		f := m.formula()
		model := m.model(f)
		want := wantHolds(f, model)
		if cnf.Holds(f, model) != want {
			t.Fatalf("%v, %v: not %v", f, model, want)
		}
		if want {
			count[1]++
		} else {
			count[0]++
		}
	}
	if min(count[0], count[1]) < 4000 {
		t.Errorf("holds too often, or too seldom: %v", count)
	}
}

func TestP2303Of(t *testing.T) {
	for i, x := range []struct {
		n     api.Net
		wires []int
		want  api.Formula
	}{
		{net(), nil, formula(0)},
		{net(input(), input(), and(0, 2)), []int{4}, formula(3, []int{-3, 1}, []int{-3, 2}, []int{3, -1, -2}, []int{3})},
		{net(input(), input(), and(0, 2)), nil, formula(3, []int{-3, 1}, []int{-3, 2}, []int{3, -1, -2})},
		{net(input(), input(), and(3, 1)), []int{5, 0, 5}, formula(3, []int{-3, -2}, []int{-3, -1}, []int{3, 2, 1}, []int{-3}, []int{1}, []int{-3})},
		{net(zero()), nil, formula(1, []int{-1})},
		{net(zero()), []int{0, 1}, formula(1, []int{-1}, []int{1}, []int{-1})},
		{net(input(), and(0, 0), and(1, 0), zero(), and(6, 5)), []int{9}, formula(5, []int{-2, 1}, []int{-2, 1}, []int{2, -1, -1}, []int{-3, -1}, []int{-3, 1}, []int{3, 1, -1}, []int{-4}, []int{-5, 4}, []int{-5, -3}, []int{5, -4, 3}, []int{-5})},
	} {
		f, e := cnf.Of(x.n, x.wires)
		if e != api.OK || !same(f, x.want) {
			t.Errorf("%d: %v, %v, not %v", i, f, e, x.want)
		}
	}
}

// TestP2303Means: what holds of the formula is just what the net tells where its wires are 1.
func TestP2303Means(t *testing.T) {
	for seed := range 2000 {
		m := newMaker(seed)
		n := m.net()
		wires := m.wires(n)
		f, e := cnf.Of(n, wires)
		if e != api.OK || cnf.Check(f) != api.OK || f.Vars != len(n.Gates) {
			t.Fatalf("%v, %v: %v, %v", n, wires, f, e)
		}
		for bits := range 1 << f.Vars {
			model := make([]bool, f.Vars+1)
			var ins []bool
			for i, g := range n.Gates {
				model[i+1] = bits>>i&1 == 1
				if g.Op == 2 {
					ins = append(ins, model[i+1])
				}
			}
			want := slices.Equal(model[1:], wantValues(n, ins))
			for _, w := range wires {
				want = want && model[w/2+1] == (w%2 == 0)
			}
			if cnf.Holds(f, model) != want {
				t.Fatalf("%v, %v: of %v not %v", n, wires, model, want)
			}
		}
	}
}

func TestP2303Errors(t *testing.T) {
	two := net(input(), input(), and(0, 2))
	many := func(count int, g api.Gate) api.Net {
		return api.Net{Gates: append([]api.Gate{input()}, slices.Repeat([]api.Gate{g}, count)...)}
	}
	for i, x := range []struct {
		n     api.Net
		wires []int
		want  api.Errno
	}{
		{two, []int{5}, api.OK},
		{two, []int{6}, api.ErrArg},
		{two, []int{0, 1, -1}, api.ErrArg},
		{two, []int{math.MinInt}, api.ErrArg},
		{two, []int{math.MaxInt}, api.ErrArg},
		{net(), []int{0}, api.ErrArg},
		{net(), []int{1}, api.ErrArg},
		{net(input(), api.Gate{Op: 4}), []int{77}, api.ErrForm},
		{net(and(0, 0)), nil, api.ErrForm},
		{many(api.MaxGates, api.Gate{Op: 4}), []int{-1}, api.ErrLong},
		{many(api.MaxGates-1, input()), nil, api.OK},
		{many(api.MaxGates-1, input()), []int{2*api.MaxGates - 1}, api.OK},
		{many(api.MaxGates, input()), nil, api.ErrLong},
		{two, make([]int, (api.MaxLits-10)/2), api.OK},
		{two, make([]int, (api.MaxLits-10)/2+1), api.ErrLong},
		{two, append(make([]int, api.MaxLits), 6), api.ErrArg},
		{many(0, input()), make([]int, api.MaxLits/2), api.OK},
		{many(0, input()), make([]int, api.MaxLits/2+1), api.ErrLong},
		{many(api.MaxLits/2, zero()), nil, api.OK},
		{many(api.MaxLits/2, zero()), []int{0}, api.ErrLong},
		{many(api.MaxLits/2+1, zero()), nil, api.ErrLong},
		{many(api.MaxLits/10, and(0, 1)), nil, api.OK},
		{many(api.MaxLits/10, and(0, 1)), []int{1}, api.ErrLong},
		{many(api.MaxLits/10+1, and(0, 1)), nil, api.ErrLong},
		{many(api.MaxGates-1, and(0, 1)), []int{2 * api.MaxGates}, api.ErrArg},
	} {
		f, e := cnf.Of(x.n, x.wires)
		if e != x.want || e != api.OK && !isNone(f) {
			t.Errorf("%d: %v, not %v", i, e, x.want)
		}
		if e == api.OK && (cnf.Check(f) != api.OK || f.Vars != len(x.n.Gates)) {
			t.Errorf("%d: Check: %v", i, cnf.Check(f))
		}
	}
}
