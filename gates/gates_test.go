package gates_test

import (
	"math"
	"slices"
	"testing"

	"metronome/api"
	"metronome/gates"
)

func zero() api.Gate        { return api.Gate{Op: 1} }
func input() api.Gate       { return api.Gate{Op: 2} }
func and(a, b int) api.Gate { return api.Gate{Op: 3, A: a, B: b} }

func net(list ...api.Gate) api.Net { return api.Net{Gates: list} }

func TestP2201Check(t *testing.T) {
	for _, r := range []struct {
		n api.Net
		e api.Errno
	}{
		{net(), api.OK}, {api.Net{Gates: []api.Gate{}}, api.OK}, {net(zero()), api.OK}, {net(input()), api.OK}, {net(zero(), zero(), input(), input(), zero()), api.OK},
		// an Op that is none
		{net(api.Gate{}), api.ErrForm}, {net(api.Gate{Op: 4}), api.ErrForm}, {net(api.Gate{Op: -1}), api.ErrForm}, {net(input(), api.Gate{Op: math.MaxInt}), api.ErrForm}, {net(input(), api.Gate{Op: math.MinInt}, input()), api.ErrForm}, {net(input(), api.Gate{Op: 259}), api.ErrForm},
		// A or B of a gate that has none
		{net(input(), api.Gate{Op: 1, A: 1}), api.ErrForm}, {net(input(), api.Gate{Op: 1, B: 1}), api.ErrForm}, {net(input(), api.Gate{Op: 2, A: 1}), api.ErrForm}, {net(input(), api.Gate{Op: 2, B: 1}), api.ErrForm}, {net(input(), api.Gate{Op: 1, A: -1}), api.ErrForm}, {net(input(), api.Gate{Op: 2, B: math.MinInt}), api.ErrForm},
		// wires of earlier gates, and others
		{net(input(), and(0, 0)), api.OK}, {net(zero(), and(1, 0)), api.OK}, {net(input(), and(1, 1)), api.OK}, {net(input(), and(0, 1), and(3, 2), and(5, 0)), api.OK},
		{net(and(0, 0)), api.ErrForm}, {net(and(1, 1)), api.ErrForm}, {net(input(), and(2, 0)), api.ErrForm}, {net(input(), and(0, 2)), api.ErrForm}, {net(input(), and(3, 0)), api.ErrForm}, {net(input(), and(0, 3)), api.ErrForm}, {net(input(), and(4, 0), input()), api.ErrForm}, {net(input(), and(0, 5), input()), api.ErrForm},
		{net(input(), and(-1, 0)), api.ErrForm}, {net(input(), and(0, -1)), api.ErrForm}, {net(input(), and(math.MinInt, 0)), api.ErrForm}, {net(input(), and(0, math.MinInt)), api.ErrForm}, {net(input(), and(math.MaxInt, 0)), api.ErrForm}, {net(input(), and(0, math.MaxInt)), api.ErrForm},
		{net(input(), input(), input(), and(5, 5), and(6, 7)), api.OK}, {net(input(), input(), input(), and(5, 6), and(6, 7)), api.ErrForm},
	} {
		if e := gates.Check(r.n); e != r.e {
			t.Errorf("%v: error %d, not %d", r.n, e, r.e)
		}
	}
}

// TestP2201Long: as many gates as may be; one more, which is told ahead of a form that can't be.
func TestP2201Long(t *testing.T) {
	most := slices.Repeat([]api.Gate{input()}, api.MaxGates)
	most[api.MaxGates-1] = and(2*api.MaxGates-3, 0)
	for _, r := range []struct {
		list []api.Gate
		e    api.Errno
	}{
		{most, api.OK}, {append(slices.Clone(most), zero()), api.ErrLong}, {append(slices.Clone(most), api.Gate{}), api.ErrLong}, {make([]api.Gate, api.MaxGates+1), api.ErrLong}, {make([]api.Gate, api.MaxGates), api.ErrForm}, {make([]api.Gate, 3*api.MaxGates), api.ErrLong},
	} {
		n := net(r.list...)
		if e := gates.Check(n); e != r.e {
			t.Errorf("%d gates: error %d, not %d", len(r.list), e, r.e)
		}
		if values, e := gates.Eval(n, nil); r.e != api.OK && (e != r.e || values != nil) {
			t.Errorf("%d gates: error %d, not %d", len(r.list), e, r.e)
		}
	}
	ins := slices.Repeat([]bool{true}, api.MaxGates-1)
	if values, e := gates.Eval(net(most...), ins); e != api.OK || !slices.Equal(values, append(ins, false)) {
		t.Errorf("%d values, error %d", len(values), e)
	}
}

func TestP2201Eval(t *testing.T) {
	type list = []bool
	wrong := net(input(), and(0, 2))
	for _, r := range []struct {
		n    api.Net
		ins  list
		want list
		e    api.Errno
	}{
		{net(), nil, nil, api.OK}, {net(), list{}, nil, api.OK}, {net(zero()), nil, list{false}, api.OK}, {net(zero(), and(1, 1)), nil, list{false, true}, api.OK},
		{net(input()), list{true}, list{true}, api.OK}, {net(input(), zero(), input()), list{false, true}, list{false, false, true}, api.OK}, {net(input(), zero(), input()), list{true, false}, list{true, false, false}, api.OK},
		{net(input(), input(), and(0, 2), and(1, 2), and(0, 3), and(1, 3)), list{true, true}, list{true, true, true, false, false, false}, api.OK},
		{net(input(), input(), and(0, 2), and(1, 2), and(0, 3), and(1, 3)), list{false, true}, list{false, true, false, true, false, false}, api.OK},
		{net(input(), input(), and(0, 2), and(1, 2), and(0, 3), and(1, 3)), list{true, false}, list{true, false, false, false, true, false}, api.OK},
		{net(input(), input(), and(0, 2), and(1, 2), and(0, 3), and(1, 3)), list{false, false}, list{false, false, false, false, false, true}, api.OK},
		{net(input(), and(0, 0), and(0, 1), and(1, 1), and(5, 7), input()), list{true, false}, list{true, true, false, false, true, false}, api.OK},
		// as many as inputs
		{net(), list{true}, nil, api.ErrCount}, {net(zero()), list{true}, nil, api.ErrCount}, {net(input()), nil, nil, api.ErrCount}, {net(input()), list{true, true}, nil, api.ErrCount}, {net(input(), zero(), input()), list{true, true, true}, nil, api.ErrCount}, {net(input(), input(), and(0, 2)), list{true}, nil, api.ErrCount},
		// Check's error is ahead
		{wrong, list{true}, nil, api.ErrForm}, {wrong, nil, nil, api.ErrForm}, {wrong, list{true, true}, nil, api.ErrForm}, {net(api.Gate{}), nil, nil, api.ErrForm},
	} {
		if values, e := gates.Eval(r.n, r.ins); e != r.e || !slices.Equal(values, r.want) || e != api.OK && values != nil {
			t.Errorf("%v of %v: %v, error %d", r.n, r.ins, values, e)
		}
	}
}

// TestP2201Oracle: made nets, some of them spoilt, some with another number of inputs.
func TestP2201Oracle(t *testing.T) {
	seen := map[api.Errno]int{}
	trues := 0
	for seed := range 20000 {
		m := newMaker(seed)
		n := m.net()
		if m.r.Intn(3) == 0 {
			m.spoil(n)
		}
		ins := m.inputs(n)
		want, we := told(n, ins)
		values, e := gates.Eval(n, ins)
		if e != we || !slices.Equal(values, want) {
			t.Fatalf("%v of %v: %v, error %d, not %v, error %d", n, ins, values, e, want, we)
		}
		if checked := gates.Check(n); e != api.ErrCount && checked != e || e == api.ErrCount && checked != api.OK {
			t.Fatalf("%v: error %d, %d", n, checked, e)
		}
		seen[e]++
		for _, holds := range values {
			if holds {
				trues++
			}
		}
	}
	if seen[api.OK] < 8000 || seen[api.ErrForm] < 3000 || seen[api.ErrCount] < 1000 || trues < 50000 {
		t.Error(seen, trues)
	}
}

func TestP2202Example(t *testing.T) {
	n, wires, ok := gates.Op(api.OpAnd, api.Bool, true)
	if !ok || !slices.Equal(n.Gates, []api.Gate{input(), input(), and(0, 2)}) || !slices.Equal(wires, []int{4}) {
		t.Errorf("%v, %v, %v", n, wires, ok)
	}
	n, wires, ok = gates.Op(api.OpNot, api.U8, false)
	if !ok || !slices.Equal(n.Gates, slices.Repeat([]api.Gate{input()}, 8)) || !slices.Equal(wires, []int{1, 3, 5, 7, 9, 11, 13, 15}) {
		t.Errorf("%v, %v, %v", n, wires, ok)
	}
}
