package opt_test

import (
	"math"
	"reflect"
	"testing"

	"metronome/api"
	"metronome/opt"
)

// plain is a copy in which lists without anything are none.
func plain(e api.CExp) any { return whole(reflect.ValueOf(e), false).Interface() }

func TestP1802Rows(t *testing.T) {
	a, b, c := ref("a"), ref("b"), ref("c")
	one, two, three, yes, no := lit(api.I8, 1), lit(api.I8, 2), lit(api.I8, 3), lit(api.Bool, 1), lit(api.Bool, 0)
	for i, r := range []struct{ e, want api.CExp }{
		{choose(yes, bin(api.OpAdd, a, bin(api.OpAdd, one, two)), b), bin(api.OpAdd, a, three)},
		{one, one}, {a, a}, {bin(api.OpAdd, one, two), three}, {un(api.OpNot, yes), no}, {un(api.OpNeg, lit(api.I8, -128)), lit(api.I8, -128)}, {un(api.OpNot, lit(api.U16, 1)), lit(api.U16, 65534)}, {bin(api.OpAdd, lit(api.I8, 127), one), lit(api.I8, -128)}, {bin(api.OpDiv, one, lit(api.I8, 0)), lit(api.I8, 0)}, {bin(api.OpLt, lit(api.U64, -1), lit(api.U64, 0)), no}, {bin(api.OpEq, yes, yes), yes}, {cast(api.U16, lit(api.I8, -1)), lit(api.U16, 65535)}, {cast(api.Bool, lit(api.U64, -5)), yes}, {cast(api.I64, lit(api.U32, 1<<32-1)), lit(api.I64, 1<<32-1)},
		// parts of parts
		{un(api.OpNot, bin(api.OpLe, cast(api.I8, yes), un(api.OpNeg, one))), yes}, {bin(api.OpMul, bin(api.OpAdd, a, one), bin(api.OpSub, one, two)), bin(api.OpMul, bin(api.OpAdd, a, one), lit(api.I8, -1))}, {cast(api.U8, choose(c, un(api.OpNeg, one), a)), cast(api.U8, choose(c, lit(api.I8, -1), a))},
		// choices
		{choose(yes, a, b), a}, {choose(no, a, b), b}, {choose(bin(api.OpLt, one, two), a, b), a}, {choose(yes, one, two), one}, {choose(choose(no, c, yes), a, b), a}, {choose(c, one, two), choose(c, one, two)}, {choose(c, one, one), choose(c, one, one)}, {choose(c, choose(yes, a, b), choose(no, a, b)), choose(c, a, b)}, {choose(no, choose(yes, a, b), choose(c, a, bin(api.OpAdd, one, two))), choose(c, a, three)}, {bin(api.OpAdd, choose(yes, one, a), two), three}, {choose(yes, a, un(api.OpNeg, two)), a},
		// all else stays
		{bin(api.OpMul, a, lit(api.I8, 0)), bin(api.OpMul, a, lit(api.I8, 0))}, {bin(api.OpAdd, bin(api.OpAdd, a, one), two), bin(api.OpAdd, bin(api.OpAdd, a, one), two)}, {bin(api.OpOr, yes, c), bin(api.OpOr, yes, c)}, {un(api.OpNot, un(api.OpNot, c)), un(api.OpNot, un(api.OpNot, c))}, {cast(api.I8, a), cast(api.I8, a)},
		{when(bin(api.OpAdd, one, two), "c", 1), when(three, "c", 1)}, {merge("c", bin(api.OpAdd, one, two), one), merge("c", three, one)}, {choose(yes, when(a, "c", 0), b), when(a, "c", 0)}, {bin(api.OpAdd, when(one, "c", 1), two), bin(api.OpAdd, when(one, "c", 1), two)},
	} {
		if got := opt.Fold(r.e); !reflect.DeepEqual(plain(got), plain(r.want)) {
			t.Errorf("%d: %+v: %+v, not %+v", i, r.e, got, r.want)
		}
		if got := folded(r.e, ""); !reflect.DeepEqual(plain(got), plain(r.want)) {
			t.Errorf("%d: the oracle: %+v: %+v, not %+v", i, r.e, got, r.want)
		}
	}
}

// TestP1802None: what is no expression stays, with what is one in it replaced.
func TestP1802None(t *testing.T) {
	a, b, one, yes := ref("a"), ref("b"), lit(api.I8, 1), lit(api.Bool, 1)
	other, two := lit(api.U8, 1), lit(api.I8, 2)
	sum := bin(api.OpAdd, one, one)
	for i, r := range []struct{ e, want api.CExp }{
		{bin(api.OpAdd, sum, other), bin(api.OpAdd, two, other)}, {un(api.OpNot, bin(api.OpAdd, sum, other)), un(api.OpNot, bin(api.OpAdd, two, other))}, {bin(api.OpMul, bin(api.OpAdd, one, other), sum), bin(api.OpMul, bin(api.OpAdd, one, other), two)}, {bin(api.OpAdd, yes, yes), bin(api.OpAdd, yes, yes)}, {un(api.OpNeg, yes), un(api.OpNeg, yes)}, {bin(api.OpImp, one, sum), bin(api.OpImp, one, two)}, {bin(99, one, sum), bin(99, one, two)}, {un(math.MinInt, sum), un(math.MinInt, two)}, {un(api.OpAdd, sum), un(api.OpAdd, two)}, {bin(api.OpNot, sum, one), bin(api.OpNot, two, one)},
		{cast(0, sum), cast(0, two)}, {cast(-7, sum), cast(-7, two)}, {cast(10, one), cast(10, one)}, {lit(api.I8, 128), lit(api.I8, 128)}, {lit(0, 0), lit(0, 0)}, {un(api.OpNot, lit(api.Bool, 2)), un(api.OpNot, lit(api.Bool, 2))}, {cast(api.I8, lit(77, 1)), cast(api.I8, lit(77, 1))}, {bin(api.OpEq, lit(0, 0), lit(0, 0)), bin(api.OpEq, lit(0, 0), lit(0, 0))},
		// choices: no Bool, no two alike
		{choose(sum, a, b), choose(two, a, b)}, {choose(lit(api.Bool, 2), a, b), choose(lit(api.Bool, 2), a, b)}, {choose(lit(api.Bool, -1), a, b), choose(lit(api.Bool, -1), a, b)}, {choose(lit(api.U8, 0), a, b), choose(lit(api.U8, 0), a, b)}, {choose(yes, sum, other), choose(yes, two, other)}, {choose(yes, bin(api.OpLt, a, b), one), choose(yes, bin(api.OpLt, a, b), one)}, {choose(yes, cast(api.U8, a), bin(api.OpAdd, b, one)), choose(yes, cast(api.U8, a), bin(api.OpAdd, b, one))}, {choose(yes, sum, bin(api.OpAdd, one, other)), choose(yes, two, bin(api.OpAdd, one, other))}, {choose(yes, un(api.OpNeg, a), yes), choose(yes, un(api.OpNeg, a), yes)},
		{choose(yes, bin(api.OpAdd, a, b), bin(api.OpAdd, b, one)), bin(api.OpAdd, a, b)}, {choose(yes, cast(api.I8, b), bin(api.OpAdd, b, one)), cast(api.I8, b)},
		// other numbers of kids, other forms
		{api.CExp{}, api.CExp{}}, {api.CExp{Form: api.EUn, Sub: api.OpNot}, api.CExp{Form: api.EUn, Sub: api.OpNot}}, {api.CExp{Form: api.EUn, Sub: api.OpNot, Kids: []api.CExp{sum, sum}}, api.CExp{Form: api.EUn, Sub: api.OpNot, Kids: []api.CExp{two, two}}}, {api.CExp{Form: api.EBin, Sub: api.OpAdd, Kids: []api.CExp{sum}}, api.CExp{Form: api.EBin, Sub: api.OpAdd, Kids: []api.CExp{two}}}, {api.CExp{Form: api.EBin, Sub: api.OpAdd, Kids: []api.CExp{one, one, one, sum}}, api.CExp{Form: api.EBin, Sub: api.OpAdd, Kids: []api.CExp{one, one, one, two}}}, {api.CExp{Form: api.EIf, Kids: []api.CExp{yes, sum}}, api.CExp{Form: api.EIf, Kids: []api.CExp{yes, two}}}, {api.CExp{Form: api.EIf}, api.CExp{Form: api.EIf}}, {api.CExp{Form: api.EIf, Kids: []api.CExp{yes, a, a, a}}, api.CExp{Form: api.EIf, Kids: []api.CExp{yes, a, a, a}}},
		{api.CExp{Form: api.EPre, Kids: []api.CExp{sum}}, api.CExp{Form: api.EPre, Kids: []api.CExp{two}}}, {api.CExp{Form: -3, Sub: 1, Kind: 2, N: 3, Name: "x", Kids: []api.CExp{sum}}, api.CExp{Form: -3, Sub: 1, Kind: 2, N: 3, Name: "x", Kids: []api.CExp{two}}}, {un(api.OpNot, api.CExp{Form: api.ELit, Kind: api.I8, Kids: []api.CExp{sum}}), un(api.OpNot, api.CExp{Form: api.ELit, Kind: api.I8, Kids: []api.CExp{two}})}, {choose(yes, a, api.CExp{Form: api.EVar, Name: "b", Kids: []api.CExp{a}}), choose(yes, a, api.CExp{Form: api.EVar, Name: "b", Kids: []api.CExp{a}})}, {choose(yes, a, when(b, "c", 2)), choose(yes, a, when(b, "c", 2))},
	} {
		if got := opt.Fold(r.e); !reflect.DeepEqual(plain(got), plain(r.want)) {
			t.Errorf("%d: %+v: %+v, not %+v", i, r.e, got, r.want)
		}
		if got := folded(r.e, ""); !reflect.DeepEqual(plain(got), plain(r.want)) {
			t.Errorf("%d: the oracle: %+v: %+v, not %+v", i, r.e, got, r.want)
		}
	}
}

// TestP1802Oracle holds Fold against the oracle, of expressions and of what is none, until each rule has shown.
func TestP1802Oracle(t *testing.T) {
	rules := []string{"kinds", "choice", "unary", "binary", "cast"}
	shown := map[string]int{}
	for seed := range 20000 {
		m := newMaker(seed)
		m.kinds = []int{api.Bool, api.I8, 1 + m.r.Intn(api.U64)}
		m.names = []api.CVar{{Name: "a", Kind: api.Bool}, {Name: "b", Kind: api.I8}, {Name: "c", Kind: m.kinds[2]}}
		e := m.exp(pick(m, m.kinds), 1+m.r.Intn(6))
		if seed%2 == 0 {
			e = m.any(1 + m.r.Intn(3))
		}
		want := folded(e, "")
		got := opt.Fold(e)
		if !reflect.DeepEqual(plain(got), plain(want)) {
			t.Fatalf("%+v\n%+v, not\n%+v", e, got, want)
		}
		if again := opt.Fold(got); !reflect.DeepEqual(plain(again), plain(got)) {
			t.Fatalf("%+v\n%+v, then\n%+v", e, got, again)
		}
		for _, rule := range rules {
			if !reflect.DeepEqual(plain(folded(e, rule)), plain(want)) {
				shown[rule]++
			}
		}
	}
	for _, rule := range rules {
		if shown[rule] < 100 {
			t.Errorf("without %q: %d", rule, shown[rule])
		}
	}
}

// TestP1802Fields: what a form does not have is not looked at, and is nothing in the answer.
func TestP1802Fields(t *testing.T) {
	for seed := range 1000 {
		m := newMaker(seed)
		m.kinds = []int{api.Bool, api.I8}
		m.names = []api.CVar{{Name: "a", Kind: api.Bool}, {Name: "b", Kind: api.I8}}
		e := merge("a", when(m.exp(api.I8, 4), "a", 1), m.exp(api.I8, 4))
		odd := copied(e)
		junkExp(&odd)
		if got, want := opt.Fold(odd), opt.Fold(e); !reflect.DeepEqual(plain(got), plain(want)) {
			t.Fatalf("%+v\n%+v, not\n%+v", odd, got, want)
		}
	}
}

// TestP1802Great: deep ones, wide ones, those within themselves.
func TestP1802Great(t *testing.T) {
	deep := lit(api.Bool, 0)
	for range 1<<16 - 1 {
		deep = un(api.OpNot, deep)
	}
	if got := opt.Fold(deep); !reflect.DeepEqual(plain(got), plain(lit(api.Bool, 1))) {
		t.Errorf("%+v", got)
	}
	chain := ref("a")
	for range 1<<15 - 1 {
		chain = choose(lit(api.Bool, 1), bin(api.OpAdd, chain, bin(api.OpSub, lit(api.I8, 3), lit(api.I8, 2))), ref("b"))
	}
	sum := opt.Fold(chain)
	for range 1<<15 - 1 {
		if sum.Form != api.EBin || !reflect.DeepEqual(plain(sum.Kids[1]), plain(lit(api.I8, 1))) {
			t.Fatalf("%d, %+v", sum.Form, sum.Kids[1:])
		}
		sum = sum.Kids[0]
	}
	if sum.Form != api.EVar {
		t.Errorf("%+v", sum)
	}
	wide := api.CExp{Form: 77, Kids: make([]api.CExp, 1<<20)}
	for i := range wide.Kids {
		wide.Kids[i] = bin(api.OpAdd, lit(api.I8, 1), lit(api.I8, i%3))
	}
	got := opt.Fold(wide)
	for i, kid := range got.Kids {
		if !isLit(kid) || kid.N != 1+i%3 {
			t.Fatalf("%d: %+v", i, kid)
		}
	}
	// beyond the bound it ends
	kids := make([]api.CExp, 2)
	kids[0], kids[1] = bin(api.OpAdd, ref("a"), ref("a")), api.CExp{Form: api.EBin, Sub: api.OpAdd, Kids: kids}
	kids[0].Kids = kids
	opt.Fold(kids[0])
	twice := ref("a")
	for range 60 {
		twice = bin(api.OpAdd, twice, twice)
	}
	opt.Fold(twice)
}
