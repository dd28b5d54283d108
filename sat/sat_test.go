package sat_test

import (
	"math"
	"slices"
	"testing"

	"metronome/api"
	"metronome/cnf"
	"metronome/sat"
)

func TestP2501Examples(t *testing.T) {
	a, e := sat.Solve(formula(2, []int{1, 2}, []int{-1}), api.MaxBudget)
	if e != api.OK || a.What != api.Sat || len(a.Model) != 3 || a.Model[1] || !a.Model[2] || len(a.Proof) > 0 {
		t.Error(a, e)
	}
	for i, x := range []struct {
		f    api.Formula
		want int
	}{
		{formula(1, []int{1}, []int{-1}), api.Unsat},
		{formula(0), api.Sat},
		{formula(9), api.Sat},
		{formula(0, nil), api.Unsat},
		{formula(3, []int{2}, nil), api.Unsat},
		{formula(1, []int{1, -1}), api.Sat},
		{formula(1, []int{1, -1, 1}, []int{-1, -1}), api.Sat},
		{formula(1, []int{1, 1}, []int{-1, -1, -1}), api.Unsat},
		{formula(1, []int{1, -1}, nil), api.Unsat},
		{formula(3, []int{1}, []int{-1, 2}, []int{-2, 3}, []int{-3, -1}), api.Unsat},
		{formula(3, []int{1}, []int{-1, 2}, []int{-2, 3}, []int{3, -1}), api.Sat},
		{formula(2, []int{1, 2}, []int{1, -2}, []int{-1, 2}, []int{-1, -2}), api.Unsat},
		{formula(2, []int{1, 2}, []int{1, -2}, []int{-1, 2}), api.Sat},
		{formula(2, []int{2, 1, 2}, []int{-2, 1, -2}, []int{2, 2, -1}, []int{-1, -2, -1}, []int{1, 2, -1}), api.Unsat},
		{formula(40, []int{40}, []int{-40, 20}, []int{-20, -40, 7}), api.Sat},
		{formula(40, []int{40}, []int{-40, 20}, []int{-20, -40}), api.Unsat},
	} {
		if got := asked(t, x.f, api.MaxBudget); got != x.want {
			t.Errorf("%d: %d, not %d", i, got, x.want)
		}
	}
}

// TestP2501Wrong: what cnf.Check says of the formula, whatever the budget is.
func TestP2501Wrong(t *testing.T) {
	wrong := []api.Formula{
		{Vars: -1}, {Vars: math.MinInt}, {Vars: api.MaxGates + 1}, {Vars: math.MaxInt},
		formula(-1, nil), formula(-1, []int{0}), formula(api.MaxGates+1, []int{0}), formula(0, []int{1}),
		formula(-1, make([][]int, api.MaxLits+1)...), formula(1, make([]int, api.MaxLits)), formula(1, make([]int, api.MaxLits-1)),
	}
	for _, literal := range []int{0, 3, -3, math.MaxInt, math.MinInt, -math.MaxInt} {
		wrong = append(wrong, formula(2, []int{literal}), formula(2, nil, []int{1, literal}), formula(2, []int{1}, []int{-1}, []int{2, -2, literal}))
	}
	count := map[api.Errno]int{}
	for i, f := range wrong {
		for _, budget := range []int{math.MinInt, -1, 0, 1, api.MaxBudget, math.MaxInt} {
			want := cnf.Check(f)
			count[want]++
			if a, e := sat.Solve(f, budget); e != want || e == api.OK || a.What != 0 || a.Model != nil || a.Proof != nil {
				t.Errorf("%d, %d: %v, %v; not %v", i, budget, a, e, want)
			}
		}
	}
	if count[api.ErrLong] < 20 || count[api.ErrForm] < 100 {
		t.Error(count)
	}
}

// TestP2502Few: formulas of few variables are never unknown, and what they are tells trying all values.
func TestP2502Few(t *testing.T) {
	count := map[int]int{}
	for seed := range 6000 {
		f := newMaker(seed).formula()
		want := api.Unsat
		if hasModel(f) {
			want = api.Sat
		}
		if got := asked(t, f, api.MaxBudget); got != want {
			t.Fatalf("%v: %d, not %d", f, got, want)
		}
		count[want]++
	}
	if count[api.Sat] < 1500 || count[api.Unsat] < 1500 {
		t.Error(count)
	}
}

// TestP2502Parts: formulas of few variables that have no model, or one, and long proofs.
func TestP2502Parts(t *testing.T) {
	for seed := range 60 {
		m := newMaker(seed)
		vars := pick(m, 11, 12, 13, 14)
		f := m.parts(vars, pick(m, 9, 80, 700, 2000))
		if seed%3 == 0 {
			f = m.pairs(vars)
		}
		if size := len(slices.Concat(f.Clauses...)) + len(f.Clauses); size > api.MaxLits {
			t.Fatal(size)
		}
		if got := asked(t, f, api.MaxBudget); got != api.Unsat {
			t.Fatalf("%d: %d", seed, got)
		}
		f.Clauses = slices.Delete(f.Clauses, 3, 4)
		if got := asked(t, f, api.MaxBudget); got != api.Sat {
			t.Fatalf("%d: %d, with a model", seed, got)
		}
	}
}

// TestP2502All: of each value of as many variables as fit, that it is not so.
func TestP2502All(t *testing.T) {
	const vars = 13
	for _, low := range []int{1, 4000} {
		f := api.Formula{Vars: low + vars - 1}
		for values := range 1 << vars {
			var clause []int
			for v := range vars {
				clause = append(clause, (low+v)*(2*(values>>v&1)-1))
			}
			f.Clauses = append(f.Clauses, clause)
		}
		if got := asked(t, f, api.MaxBudget); got != api.Unsat {
			t.Error(got)
		}
		f.Clauses = slices.Delete(f.Clauses, 5000, 5001)
		if got := asked(t, f, api.MaxBudget); got != api.Sat {
			t.Error(got)
		}
	}
}

// TestP2502Two: clauses of at most two literals.
func TestP2502Two(t *testing.T) {
	count := map[int]int{}
	for seed := range 1500 {
		m := newMaker(seed)
		f := api.Formula{Vars: pick(m, 15, 40, 100, 150, 200, 250, 299, 300, 600)}
		for range 300 - m.r.Intn(100) {
			clause := m.clause(f.Vars, 2)[:2]
			if m.r.Intn(200) == 0 {
				clause = clause[:1]
			}
			f.Clauses = append(f.Clauses, clause)
		}
		want := api.Unsat
		if twoHave(f) {
			want = api.Sat
		}
		if got := asked(t, f, api.MaxBudget); got != want {
			t.Fatalf("%v: %d, not %d", f, got, want)
		}
		count[want]++
	}
	if count[api.Sat] < 400 || count[api.Unsat] < 400 {
		t.Error(count)
	}
}

// TestP2502Ring: each variable leads to the next one, and the last one to the opposite of one of them; then that leads to the first one.
func TestP2502Ring(t *testing.T) {
	const vars = 299
	f := formula(vars)
	for v := 1; v < vars; v++ {
		f.Clauses = append(f.Clauses, []int{-v, v + 1})
	}
	f.Clauses = append(f.Clauses, []int{-vars, -1})
	if got := asked(t, f, api.MaxBudget); got != api.Sat {
		t.Error(got)
	}
	f.Clauses = append(f.Clauses, []int{1, 150})
	if got := asked(t, f, api.MaxBudget); got != api.Sat {
		t.Error(got)
	}
	f.Clauses[298] = []int{-vars, -150}
	if got := asked(t, f, api.MaxBudget); got != api.Unsat {
		t.Error(got)
	}
}

// TestP2501Budget: the least budget of an answer is at most the number of all values, each smaller one is too small, each greater one is enough for the same answer.
func TestP2501Budget(t *testing.T) {
	unknown := 0
	for seed := range 150 {
		f := newMaker(seed).even(40, 168, 3)
		if seed%3 == 0 {
			f = holes(5)
		}
		want, _ := sat.Solve(f, api.MaxBudget)
		least := 0
		for asked(t, f, least) == api.Unknown {
			least++
		}
		unknown += least
		for _, budget := range []int{least, least + 1, 2*least + 7, math.MaxInt} {
			if got, _ := sat.Solve(f, budget); !same(got, want) {
				t.Fatalf("%d: %v, not %v", budget, got, want)
			}
		}
		for _, budget := range []int{-1, -api.MaxBudget, math.MinInt} {
			zero, _ := sat.Solve(f, 0)
			if got, e := sat.Solve(f, budget); e != api.OK || !same(got, zero) {
				t.Fatalf("%d: %v, not %v", budget, got, zero)
			}
		}
	}
	if unknown < 1000 {
		t.Error(unknown)
	}
}

// TestP2501Zero: no conflict at all is beyond the budget.
func TestP2501Zero(t *testing.T) {
	for i, x := range []struct {
		f    api.Formula
		want int
	}{
		{formula(2, []int{1, 2}, []int{1, -2}, []int{-1, 2}, []int{-1, -2}), api.Unknown},
		{holes(4), api.Unknown},
		{holes(9), api.Unknown},
		{formula(3, []int{-1, 2}, []int{-2, 3}), api.Sat},
		{formula(0), api.Sat},
	} {
		for _, budget := range []int{0, -1, math.MinInt} {
			if got := asked(t, x.f, budget); got != x.want {
				t.Errorf("%d, %d: %d, not %d", i, budget, got, x.want)
			}
		}
	}
}

func TestP2501Holes(t *testing.T) {
	for birds := 2; birds <= 7; birds++ {
		f := holes(birds)
		if got := asked(t, f, api.MaxBudget); got != api.Unsat {
			t.Errorf("%d birds: %d", birds, got)
		}
		// without one that may not have the hole of another there is room
		at := slices.IndexFunc(f.Clauses, func(clause []int) bool { return len(clause) == 2 && clause[0] < 0 })
		f.Clauses = slices.Delete(f.Clauses, at, at+1)
		if got := asked(t, f, api.MaxBudget); got != api.Sat {
			t.Errorf("%d birds: %d, with a model", birds, got)
		}
	}
}

// TestP2501Random: formulas of more variables than can be gone through; none is so hard that it could not be told.
func TestP2501Random(t *testing.T) {
	count := map[int]int{}
	for seed := range 2000 {
		m := newMaker(seed)
		vars := pick(m, 15, 20, 25, 30)
		if seed%20 == 0 {
			vars = pick(m, 50, 80, 110)
		}
		f := m.even(vars, vars*pick(m, 40, 42, 44, 46)/10, 3)
		if seed%2 == 0 {
			f.Clauses = append(f.Clauses[:vars*5/2], m.even(vars, vars*pick(m, 5, 6, 7)/10, 2).Clauses...)
		}
		count[asked(t, f, api.MaxBudget)]++
	}
	if count[api.Sat] < 500 || count[api.Unsat] < 500 || count[api.Unknown] > 0 {
		t.Error(count)
	}
}

// TestP2501Long: formulas most of whose proofs are about as long as drat.Check takes: those that are longer are not told.
func TestP2501Long(t *testing.T) {
	count := map[int]int{}
	for seed := range 12 {
		count[asked(t, newMaker(seed).even(225, 1035, 3), api.MaxBudget)]++
	}
	if count[api.Unsat] == 0 || count[api.Unknown] == 0 {
		t.Error(count)
	}
}

// TestP2501Planted: formulas of which a model is known.
func TestP2501Planted(t *testing.T) {
	for seed := range 60 {
		m := newMaker(seed)
		vars := pick(m, 60, 120, 200)
		f := m.even(vars, vars*pick(m, 30, 42, 50, 80)/10, 3)
		for _, clause := range f.Clauses {
			if !slices.ContainsFunc(clause, func(literal int) bool { return literal%2 == 0 == (literal > 0) }) {
				clause[0] = -clause[0]
			}
		}
		if got := asked(t, f, api.MaxBudget); got != api.Sat {
			t.Fatalf("%d: %d", seed, got)
		}
	}
}

// TestP2501Nets: operations that tell the same have no values at which they differ; others have.
func TestP2501Nets(t *testing.T) {
	for i, x := range []struct {
		kind, bits int
		left       func(b *board, x, y []int) []int
		right      func(b *board, x, y []int) []int
		want       int
	}{
		{api.I32, 32, plus, func(b *board, x, y []int) []int { return plus(b, y, x) }, api.Unsat},
		{api.U16, 16, plus, func(b *board, x, y []int) []int { return b.op(api.OpSub, x, b.op(api.OpNeg, y)) }, api.Unsat},
		{api.I32, 32, func(b *board, x, y []int) []int { return b.op(api.OpSub, plus(b, x, y), y) }, first, api.Unsat},
		{api.I8, 8, func(b *board, x, y []int) []int { return plus(b, plus(b, x, x), y) }, func(b *board, x, y []int) []int { return plus(b, x, plus(b, y, x)) }, api.Unsat},
		{api.U16, 16, func(b *board, x, y []int) []int { return b.op(api.OpShl, plus(b, x, x), y) }, func(b *board, x, y []int) []int { z := b.op(api.OpShl, x, y); return plus(b, z, z) }, api.Unsat},
		{api.I64, 64, plus, func(b *board, x, y []int) []int { return b.op(api.OpOr, x, y) }, api.Sat},
		{api.I8, 8, func(b *board, x, y []int) []int { return b.op(api.OpMul, b.op(api.OpDiv, x, y), y) }, first, api.Sat},
		{api.U32, 32, func(b *board, x, y []int) []int { return b.op(api.OpMul, x, y) }, func(b *board, x, y []int) []int { return b.op(api.OpMul, y, plus(b, x, y)) }, api.Sat},
	} {
		b := &board{kind: x.kind}
		p, q := b.value(x.bits), b.value(x.bits)
		f := b.differ(x.left(b, p, q), x.right(b, p, q))
		if got := asked(t, f, api.MaxBudget); got != x.want {
			t.Errorf("%d: %d, not %d", i, got, x.want)
		}
	}
}

func plus(b *board, x, y []int) []int  { return b.op(api.OpAdd, x, y) }
func first(b *board, x, y []int) []int { return x }

// TestP2503Hard: formulas whose proofs are too long, or that are as long as they may be: the call ends, also where it can't be told.
func TestP2503Hard(t *testing.T) {
	chain := formula(api.MaxLits/3-1, []int{1})
	for v := 1; v < chain.Vars; v++ {
		chain.Clauses = append(chain.Clauses, []int{-v, v + 1})
	}
	ended := formula(chain.Vars, append(slices.Clone(chain.Clauses), []int{-chain.Vars})...)
	free := formula(chain.Vars, slices.Clone(chain.Clauses[1:])...)
	wide := make([]int, api.MaxLits-1)
	for i := range wide {
		wide[i] = i + 1
	}
	m := newMaker(1)
	for i, x := range []struct {
		f      api.Formula
		budget int
		want   int // 0, if more than one may be
	}{
		{chain, 0, api.Sat},
		{ended, api.MaxBudget, api.Unsat},
		{free, api.MaxBudget, api.Sat},
		{formula(api.MaxGates), api.MaxBudget, api.Sat},
		{formula(api.MaxGates, wide), api.MaxBudget, api.Sat},
		{formula(0, make([][]int, api.MaxLits)...), api.MaxBudget, api.Unsat},
		{formula(api.MaxGates, []int{-api.MaxGates}, []int{api.MaxGates}), api.MaxBudget, api.Unsat},
		{m.even(60000, 60000, 2), api.MaxBudget, 0},
		{m.even(11700, 49900, 3), 3000, api.Unknown},
		{m.even(300, 9500, 20), api.MaxBudget, api.Sat},
		{holes(11), api.MaxBudget, 0},
		{holes(20), 5000, api.Unknown},
		{holes(51), 2000, api.Unknown},
	} {
		if got := asked(t, x.f, x.budget); x.want != 0 && got != x.want {
			t.Errorf("%d: %d, not %d", i, got, x.want)
		}
	}
}
