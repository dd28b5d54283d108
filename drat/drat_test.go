package drat_test

import (
	"math"
	"slices"
	"testing"

	"metronome/api"
	"metronome/drat"
)

func four() api.Formula {
	return formula(2, []int{1, 2}, []int{1, -2}, []int{-1, 2}, []int{-1, -2})
}

func TestP2401Implied(t *testing.T) {
	chain := formula(5, []int{1, 2}, []int{-2, 3}, []int{-3, -3, 4})
	for i, x := range []struct {
		f      api.Formula
		clause []int
		want   bool
	}{
		{chain, []int{1, 4}, true},
		{chain, []int{4, 1, 4, 1}, true},
		{chain, []int{1, 5, 4}, true},
		{chain, []int{1}, false},
		{chain, []int{4}, false},
		{chain, []int{-4, -2}, false},
		{chain, []int{4, -2}, true},
		{chain, nil, false},
		{chain, []int{5, -5}, true},
		{chain, []int{-5, 3, 5}, true},
		{formula(2), []int{1}, false},
		{formula(2), nil, false},
		{formula(2), []int{-2, 2}, true},
		{formula(1, []int{1, 1}), []int{1}, true},
		{formula(1, []int{1, 1}), []int{-1}, false},
		{formula(2, []int{1, -1, 2}), []int{2}, false},
		{formula(2, []int{1}, []int{-1}), []int{2}, true},
		{formula(2, []int{1}, []int{-1}), nil, true},
		{formula(2, []int{1, 1}, []int{-1, -1}), nil, true},
		{formula(2, nil), []int{2}, true},
		{formula(2, nil), nil, true},
		{four(), nil, false},
		{four(), []int{1}, true},
		{four(), []int{-2}, true},
		// the clause must follow by propagation: that it holds in all models is not enough
		{formula(3, []int{1, 2}, []int{1, -2}, []int{3}), nil, false},
		{formula(4, []int{1, 2, 4}, []int{1, -2, 4}, []int{-1, 3, 4}, []int{-1, -3, 4}), []int{4}, false},
	} {
		if got := drat.Implied(x.f, x.clause); got != x.want {
			t.Errorf("%d: %v, not %v", i, got, x.want)
		}
	}
}

// TestP2401Wrong: a literal that is none, or a formula that cnf.Check does not take: false, whatever else holds.
func TestP2401Wrong(t *testing.T) {
	broken := formula(2, []int{1}, []int{-1}, nil)
	for _, literal := range []int{0, 3, -3, math.MaxInt, math.MinInt, -math.MaxInt} {
		for _, clause := range [][]int{{literal}, {1, literal}, {1, -1, literal}, {literal, 2, -2}} {
			if drat.Implied(broken, clause) {
				t.Errorf("%v", clause)
			}
			if f := formula(2, []int{1}, []int{-1}, clause); drat.Implied(f, nil) || drat.Implied(f, []int{1, -1}) {
				t.Errorf("%v", f)
			}
		}
	}
	for _, f := range []api.Formula{
		{Vars: -1}, {Vars: math.MinInt}, {Vars: api.MaxGates + 1}, {Vars: math.MaxInt},
		formula(-1, nil), formula(api.MaxGates+1, nil), formula(0, make([][]int, api.MaxLits+1)...), formula(0, []int{1}),
	} {
		if drat.Implied(f, nil) || drat.Implied(f, []int{1, -1}) {
			t.Errorf("%d, %d", f.Vars, len(f.Clauses))
		}
	}
	if !drat.Implied(formula(api.MaxGates, []int{-api.MaxGates}), []int{-api.MaxGates, api.MaxGates - 1}) || !drat.Implied(formula(0, nil), nil) {
		t.Error("the greatest, the least")
	}
}

// TestP2401Long: the clause may be longer than a formula.
func TestP2401Long(t *testing.T) {
	f := formula(3, []int{1, 2})
	long := slices.Repeat([]int{1, 3}, api.MaxLits)
	if drat.Implied(f, long) || !drat.Implied(f, append(long, 2)) || drat.Implied(f, append(long, 2, 4)) {
		t.Error("long")
	}
}

func TestP2401Made(t *testing.T) {
	count := map[bool]int{}
	for seed := range 20000 {
		m := newMaker(seed)
		f, clause := m.formula(), []int(nil)
		clause = m.clause(f.Vars, 4)
		want := follows(judgeOf(f).list, setOf(clause))
		if got := drat.Implied(f, clause); got != want {
			t.Fatalf("%v, %v: %v, not %v", f, clause, got, want)
		}
		count[want]++
	}
	if count[true] < 2000 || count[false] < 2000 {
		t.Error(count)
	}
}

func TestP2402Check(t *testing.T) {
	pair := formula(3, []int{1, 2}, []int{-1, -2})
	ended := formula(1, nil)
	unit := formula(2, []int{1}, []int{-1, 2}, []int{-2, -1})
	for i, x := range []struct {
		f     api.Formula
		proof []api.Line
		at    int
		want  api.Errno
	}{
		{formula(1, []int{1}, []int{-1}), []api.Line{add()}, -1, api.OK},
		{formula(1, []int{1, 1}, []int{-1, -1}), []api.Line{add()}, -1, api.OK},
		{formula(1, []int{1}, []int{-1}), nil, 0, api.ErrProof},
		{formula(0), nil, 0, api.ErrProof},
		{formula(0), []api.Line{add()}, 0, api.ErrProof},
		{formula(0), []api.Line{gone(), gone()}, 2, api.ErrProof},
		{four(), []api.Line{add(1), add()}, -1, api.OK},
		{four(), []api.Line{add()}, 0, api.ErrProof},
		{four(), []api.Line{add(1)}, 1, api.ErrProof},
		{four(), nil, 0, api.ErrProof},
		{four(), []api.Line{add(-2), add(2), add()}, -1, api.OK},
		// the empty clause of f counts, though it may have been taken away; lines are looked at nevertheless
		{ended, nil, -1, api.OK},
		{ended, []api.Line{add(1), add(-1)}, -1, api.OK},
		{ended, []api.Line{gone()}, -1, api.OK},
		{ended, []api.Line{gone(), add()}, 1, api.ErrProof},
		{ended, []api.Line{gone(), add(1), add(-1)}, 2, api.ErrProof},
		{ended, []api.Line{add(2)}, 0, api.ErrForm},
		{ended, []api.Line{add(), add(2)}, -1, api.OK},
		{formula(1, nil, nil), []api.Line{gone(), add(1), gone(), add(-1)}, 3, api.ErrProof},
		// lines behind an empty clause that was put
		{four(), []api.Line{add(1), add(), add(3), add(0)}, -1, api.OK},
		{four(), []api.Line{add(1), gone(), add(3)}, 2, api.ErrForm},
		{four(), []api.Line{add(1), add(), {Clause: make([]int, api.MaxLits)}}, -1, api.OK},
		// what is gone
		{four(), []api.Line{gone(2, 1), add(1), add()}, 1, api.ErrProof},
		{four(), []api.Line{gone(2, 1, 2, 2), add(1), add()}, 1, api.ErrProof},
		{four(), []api.Line{gone(1), gone(), gone(1, 2, -1), add(1), add()}, -1, api.OK},
		{four(), []api.Line{add(1), gone(1, 2), gone(-2, 1), add()}, -1, api.OK},
		{four(), []api.Line{add(1), gone(1), add()}, 2, api.ErrProof},
		{four(), []api.Line{add(1), gone(1), add(1), add()}, -1, api.OK},
		{four(), []api.Line{add(1), add(1, 1), gone(1), add()}, -1, api.OK},
		{four(), []api.Line{add(1), add(1, 1), gone(1), gone(1, 1), add()}, 4, api.ErrProof},
		{unit, []api.Line{gone(1), add(1)}, 1, api.ErrProof},
		{unit, []api.Line{gone(1), add(-1), add()}, 2, api.ErrProof},
		{unit, []api.Line{gone(-1, 2), add()}, 1, api.ErrProof},
		{unit, []api.Line{add(2), gone(-1, 2), add()}, -1, api.OK},
		{unit, []api.Line{add(2), gone(1), add(1)}, 2, api.ErrProof},
		{unit, []api.Line{add(-2), gone(1), add(-1), add()}, 3, api.ErrProof},
		{unit, []api.Line{add(-2), gone(-1, -2), add()}, -1, api.OK},
		// by the first literal
		{pair, []api.Line{add(3, 1)}, 1, api.ErrProof},
		{pair, []api.Line{add(1, 3)}, 0, api.ErrProof},
		{pair, []api.Line{add(1, 2, 3), add(-1, -2, 3)}, 2, api.ErrProof},
		{pair, []api.Line{add(3), add(-3, 1)}, 1, api.ErrProof},
		{pair, []api.Line{add(3), add(-3)}, 1, api.ErrProof},
		{pair, []api.Line{add(3), gone(3), add(-3)}, 3, api.ErrProof},
		{pair, []api.Line{add(1, -2), add(1)}, 0, api.ErrProof},
		{pair, []api.Line{add(-3, 1), add(3, 2)}, 2, api.ErrProof},
		{pair, []api.Line{add(-3, 1), add(3)}, 1, api.ErrProof},
		{pair, []api.Line{add(-3, 1), add(3, -1)}, 2, api.ErrProof},
		{pair, []api.Line{add(-3, 1), add(3, 3, -1)}, 2, api.ErrProof},
		{pair, []api.Line{add(-3, -3, 1), add(3, -1)}, 2, api.ErrProof},
		{pair, []api.Line{add(-3, 1, 2), add(3)}, 2, api.ErrProof},
		{pair, []api.Line{add(-3, 1, 2), add(-3, 1), add(3)}, 2, api.ErrProof},
		{pair, []api.Line{add(-3, 1, 2), add(-3, 1), gone(-3, 1), add(3)}, 4, api.ErrProof},
		{pair, []api.Line{add(3, -3), add(3, 1)}, 1, api.ErrProof},
		{pair, []api.Line{add(3, -3), gone(-3, 3), add(3, 1)}, 3, api.ErrProof},
		{formula(1, []int{1, -1}), []api.Line{add(1)}, 0, api.ErrProof},
		{formula(1, []int{1, -1}), []api.Line{gone(1, -1), add(1)}, 2, api.ErrProof},
	} {
		if at, e := drat.Check(x.f, x.proof); at != x.at || e != x.want {
			t.Errorf("%d: %d, %v; not %d, %v", i, at, e, x.at, x.want)
		}
	}
}

func TestP2402Formula(t *testing.T) {
	lines := []api.Line{add(9)}
	for i, x := range []struct {
		f    api.Formula
		want api.Errno
	}{
		{formula(-1), api.ErrForm},
		{formula(-1, nil), api.ErrForm},
		{formula(1, nil, []int{2}), api.ErrForm},
		{formula(1, nil, []int{0}), api.ErrForm},
		{formula(api.MaxGates+1, nil), api.ErrLong},
		{formula(1, make([][]int, api.MaxLits+1)...), api.ErrLong},
		{formula(-1, make([][]int, api.MaxLits+1)...), api.ErrLong},
	} {
		for _, proof := range [][]api.Line{nil, {add()}, lines} {
			if at, e := drat.Check(x.f, proof); at != 0 || e != x.want {
				t.Errorf("%d: %d, %v; not 0, %v", i, at, e, x.want)
			}
		}
	}
	if at, e := drat.Check(formula(api.MaxGates, []int{api.MaxGates}, []int{-api.MaxGates}), []api.Line{add()}); at != -1 || e != api.OK {
		t.Error(at, e)
	}
}

// TestP2402Long: each line counts its literals, and one more; ErrLong is told ahead of ErrForm and ErrProof.
func TestP2402Long(t *testing.T) {
	f := formula(2, []int{1, 2})
	sized := func(literal, count int) api.Line { return add(slices.Repeat([]int{literal}, count)...) }
	pairs := slices.Repeat([]api.Line{add(1, -1)}, api.MaxLits/3+1)
	for i, x := range []struct {
		proof []api.Line
		at    int
		want  api.Errno
	}{
		{[]api.Line{sized(2, api.MaxLits-1)}, 1, api.ErrProof},
		{[]api.Line{sized(2, api.MaxLits)}, 0, api.ErrLong},
		{[]api.Line{sized(3, api.MaxLits)}, 0, api.ErrLong},
		{[]api.Line{sized(3, api.MaxLits-1)}, 0, api.ErrForm},
		{[]api.Line{sized(-2, api.MaxLits-1)}, 0, api.ErrProof},
		{[]api.Line{{Gone: true, Clause: sized(2, api.MaxLits).Clause}}, 0, api.ErrLong},
		{[]api.Line{gone(1), sized(2, api.MaxLits-3)}, 2, api.ErrProof},
		{[]api.Line{gone(1), sized(2, api.MaxLits-2)}, 1, api.ErrLong},
		{[]api.Line{gone(), sized(2, api.MaxLits-2)}, 2, api.ErrProof},
		{[]api.Line{gone(), sized(2, api.MaxLits-1)}, 1, api.ErrLong},
		{[]api.Line{sized(2, api.MaxLits-2), gone(), add(3)}, 2, api.ErrLong},
		{pairs[:api.MaxLits/3], api.MaxLits / 3, api.ErrProof},
		{pairs, api.MaxLits / 3, api.ErrLong},
		{slices.Concat(pairs[:10], []api.Line{add(-2)}, pairs), 10, api.ErrProof},
		{slices.Concat(pairs[:10], []api.Line{add(-3)}, pairs), 10, api.ErrForm},
		{slices.Repeat([]api.Line{gone()}, api.MaxLits), api.MaxLits, api.ErrProof},
		{slices.Repeat([]api.Line{gone()}, api.MaxLits+1), api.MaxLits, api.ErrLong},
	} {
		if at, e := drat.Check(f, x.proof); at != x.at || e != x.want {
			t.Errorf("%d: %d, %v; not %d, %v", i, at, e, x.at, x.want)
		}
	}
}

func TestP2402Form(t *testing.T) {
	for _, literal := range []int{0, 3, -3, math.MaxInt, math.MinInt, -math.MaxInt} {
		for _, line := range []api.Line{add(literal), gone(literal), add(2, -2, literal), add(literal, 1), gone(1, 2, literal)} {
			if at, e := drat.Check(four(), []api.Line{add(1), gone(2), line, add()}); at != 2 || e != api.ErrForm {
				t.Errorf("%v: %d, %v", line, at, e)
			}
		}
	}
}

// TestP2402Made: proofs most of whose lines are right, held against the chapter's words gone over step by step.
func TestP2402Made(t *testing.T) {
	count, lines, rat := map[api.Errno]int{}, 0, 0
	for seed := range 12000 {
		m := newMaker(seed)
		f := m.formula()
		proof := m.proof(f)
		if m.r.Intn(10) == 0 {
			clauses := [][]int{}
			for _, line := range proof {
				clauses = append(clauses, line.Clause)
			}
			m.spoil(f, clauses...)
		}
		want, wantE := check(f, proof)
		if at, e := drat.Check(f, proof); at != want || e != wantE {
			t.Fatalf("%d: %v, %v: %d, %v; not %d, %v", seed, f, proof, at, e, want, wantE)
		}
		count[wantE]++
		lines += len(proof)
		rat += firsts(f, proof)
	}
	if count[api.OK] < 1000 || count[api.ErrForm] < 300 || count[api.ErrProof] < 2000 || lines < 100000 || rat < 5000 {
		t.Error(count, lines, rat)
	}
}

// firsts is how many lines follow by their first literal alone.
func firsts(f api.Formula, proof []api.Line) (count int) {
	j := judgeOf(f)
	for _, line := range proof {
		if j.take(line) != api.OK {
			break
		}
		if !line.Gone && !follows(j.list[:len(j.list)-1], setOf(line.Clause)) {
			count++
		}
	}
	return count
}

// TestP2403NoModel: of a formula that has a model there is no proof; of one that has none there is one.
func TestP2403NoModel(t *testing.T) {
	count := map[api.Errno]int{}
	for seed := range 6000 {
		m := newMaker(seed)
		f := m.formula()
		proof := m.proof(f)
		_, e := drat.Check(f, proof)
		if e == api.OK && hasModel(f) {
			t.Fatalf("%v, %v", f, proof)
		}
		count[e]++
		if f.Vars < 10 && !hasModel(f) {
			if at, e := drat.Check(f, split(f, nil)); at != -1 || e != api.OK {
				t.Fatalf("%v, %v: %d, %v", f, split(f, nil), at, e)
			}
		}
	}
	if count[api.OK] < 500 || count[api.ErrProof] < 500 {
		t.Error(count)
	}
}

// holes says that each of some birds has one hole of one fewer, and that no two have the same one.
func holes(birds int) (f api.Formula) {
	in := func(bird, hole int) int { return bird*(birds-1) + hole + 1 }
	f.Vars = birds * (birds - 1)
	for a := range birds {
		var clause []int
		for hole := range birds - 1 {
			clause = append(clause, in(a, hole))
			for b := range a {
				f.Clauses = append(f.Clauses, []int{-in(a, hole), -in(b, hole)})
			}
		}
		f.Clauses = append(f.Clauses, clause)
	}
	return f
}

// TestP2403Holes: more birds than holes: the proof that tries all values is one, and no longer, if a line of it is left out that others lean on.
func TestP2403Holes(t *testing.T) {
	f := holes(4)
	proof := split(f, nil)
	if at, e := drat.Check(f, proof); at != -1 || e != api.OK {
		t.Fatal(at, e)
	}
	want, wantE := check(f, proof[len(proof)-1:])
	if at, e := drat.Check(f, proof[len(proof)-1:]); at != want || e != wantE || e != api.ErrProof {
		t.Fatal(at, e)
	}
}

// chain is 1, and that each variable makes the next one so.
func chain(vars int) (f api.Formula) {
	f = formula(vars, []int{1})
	for v := 1; v < vars; v++ {
		f.Clauses = append(f.Clauses, []int{-v, v + 1})
	}
	return f
}

// TestP2402Great: formulas and proofs as long as they may be.
func TestP2402Great(t *testing.T) {
	const vars = api.MaxLits/3 - 1
	f := chain(vars)
	var proof []api.Line
	for range api.MaxLits/5 - 1 {
		proof = append(proof, add(-1, vars), gone(vars))
	}
	if at, e := drat.Check(f, proof); at != len(proof) || e != api.ErrProof {
		t.Error(at, e)
	}
	f.Clauses = append(f.Clauses, []int{-vars})
	if at, e := drat.Check(f, append(proof, add())); at != -1 || e != api.OK {
		t.Error(at, e)
	}
	proof = nil
	for v := range api.MaxLits/4 - 1 {
		proof = append(proof, add(1+v), gone(1+v))
	}
	if at, e := drat.Check(formula(vars), proof); at != len(proof) || e != api.ErrProof {
		t.Error(at, e)
	}
}
