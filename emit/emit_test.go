package emit_test

import (
	"reflect"
	"slices"
	"strconv"
	"strings"
	"testing"

	"metronome/api"
	"metronome/bv"
	"metronome/code"
	"metronome/emit"
	"metronome/exec"
	"metronome/flat"
	"metronome/gram"
	"metronome/obc"
	"metronome/opt"
)

func lit(kind, n int) api.CExp { return api.CExp{Form: api.ELit, Kind: kind, N: n} }

func ref(name string) api.CExp { return api.CExp{Form: api.EVar, Name: name} }

func un(op int, kid api.CExp) api.CExp {
	return api.CExp{Form: api.EUn, Sub: op, Kids: []api.CExp{kid}}
}

func bin(op int, a, b api.CExp) api.CExp {
	return api.CExp{Form: api.EBin, Sub: op, Kids: []api.CExp{a, b}}
}

func choose(a, b, c api.CExp) api.CExp {
	return api.CExp{Form: api.EIf, Kids: []api.CExp{a, b, c}}
}

func cast(kind int, kid api.CExp) api.CExp {
	return api.CExp{Form: api.ECast, Kind: kind, Kids: []api.CExp{kid}}
}

func set(name string, e api.CExp) api.Stmt { return api.Stmt{Form: api.SSet, Name: name, E: e} }

func store(name string, e api.CExp) api.Stmt { return api.Stmt{Form: api.SStore, Name: name, E: e} }

func list(all ...api.Stmt) []api.Stmt { return all }

func fork(e api.CExp, yes, no []api.Stmt) api.Stmt {
	return api.Stmt{Form: api.SIf, E: e, Then: yes, Else: no}
}

var kindNames = []string{api.Bool: "bool", api.I8: "i8", api.I16: "i16", api.I32: "i32", api.I64: "i64", api.U8: "u8", api.U16: "u16", api.U32: "u32", api.U64: "u64"}

// vars reads variables: each a name and a kind, parted by a dot.
func vars(text string) (list []api.CVar) {
	for _, one := range strings.Fields(text) {
		name, kind, _ := strings.Cut(one, ".")
		list = append(list, api.CVar{Name: name, Kind: slices.Index(kindNames, kind)})
	}
	return list
}

// cells reads cells: each a name, a kind, and what it is at first.
func cells(text string) (list []api.Cell) {
	for _, one := range strings.Fields(text) {
		words := strings.Split(one, ".")
		n, _ := strconv.Atoi(words[2])
		list = append(list, api.Cell{Name: words[0], Kind: slices.Index(kindNames, words[1]), Init: n})
	}
	return list
}

func step(ins, outs, more, kept string, body ...api.Stmt) api.Step {
	return api.Step{Ins: vars(ins), Outs: vars(outs), Vars: vars(more), Cells: cells(kept), Body: body}
}

func kindsOf(list []api.CVar) (kinds []int) {
	for _, v := range list {
		kinds = append(kinds, v.Kind)
	}
	return kinds
}

func same(a, b [][]int) bool { return slices.EqualFunc(a, b, slices.Equal[[]int]) }

// emitted is what Make answers: it must be all that is promised.
func emitted(t *testing.T, s api.Step, ins [][]int) api.Code {
	t.Helper()
	c, e := emit.Make(s)
	if e != api.OK || code.Check(c) != api.OK {
		t.Fatalf("%.3000v\nerror %d, then %d of %.3000v", s, e, code.Check(c), c)
	}
	if c.Ins != len(s.Ins) || c.Outs != len(s.Outs) || !slices.Equal(c.Kinds[:c.Ins+c.Outs], slices.Concat(kindsOf(s.Ins), kindsOf(s.Outs))) {
		t.Fatalf("%.3000v\n%.3000v", s, c)
	}
	want, we := obc.Run(s, ins)
	outs, oe := exec.Run(c, ins)
	if oe != we || !same(outs, want) {
		t.Fatalf("%.3000v\nof %v: error %d, %v, not %d, %v: %.3000v", s, ins, oe, outs, we, want, c)
	}
	counted(t, c, ins)
	return c
}

// counted: no tick runs more instructions than Most tells.
func counted(t *testing.T, c api.Code, ins [][]int) {
	t.Helper()
	most, e := emit.Most(c)
	if e != api.OK {
		t.Fatalf("%.3000v: error %d", c, e)
	}
	m, _ := exec.New(c)
	for _, values := range ins {
		if _, n, e := m.Tick(values); e == api.OK && n > most {
			t.Fatalf("%.3000v of %v: %d, not %d", c, values, n, most)
		}
	}
}

// TestP2001Example: the step code of chapter 17.
func TestP2001Example(t *testing.T) {
	s := step("x.i8", "y.i8", "", "m.i8.0", set("y", bin(api.OpAdd, ref("m"), ref("x"))), store("m", ref("y")))
	c := emitted(t, s, [][]int{{1}, {2}, {3}})
	if outs, e := exec.Run(c, [][]int{{1}, {2}, {3}}); e != api.OK || !same(outs, [][]int{{1}, {3}, {6}}) {
		t.Errorf("%v, error %d", outs, e)
	}
	if want := (api.Code{Kinds: []int{api.I8, api.I8, api.I8}, Ins: 1, Outs: 1, Cells: 1, Init: []int{0}, Stack: 2, Body: []api.Ins{{Op: api.ILoad, N: 2}, {Op: api.ILoad, N: 0}, {Op: api.IBin, N: api.OpAdd, K: api.I8}, {Op: api.ISave, N: 1}, {Op: api.ILoad, N: 1}, {Op: api.ISave, N: 2}, {Op: api.IEnd}}}); !reflect.DeepEqual(c, want) {
		t.Errorf("%+v", c)
	}
}

// TestP2001Rows: what some step code answers, told by hand.
func TestP2001Rows(t *testing.T) {
	a, c, d, one, two := ref("a"), ref("c"), ref("d"), lit(api.I8, 1), lit(api.I8, 2)
	ins := [][]int{{5, 0, 0}, {-7, 1, 0}, {3, 0, 1}, {4, 1, 1}}
	for i, r := range []struct {
		body []api.Stmt
		want [][]int
	}{
		{nil, [][]int{{0, 0}, {0, 0}, {0, 0}, {0, 0}}},
		{list(set("y", a), set("z", c)), [][]int{{5, 0}, {-7, 1}, {3, 0}, {4, 1}}},
		{list(set("y", a), set("y", bin(api.OpAdd, ref("y"), one))), [][]int{{6, 0}, {-6, 0}, {4, 0}, {5, 0}}},
		{list(set("y", bin(api.OpSub, a, bin(api.OpSub, one, two)))), [][]int{{6, 0}, {-6, 0}, {4, 0}, {5, 0}}},
		{list(set("y", bin(api.OpSub, bin(api.OpSub, a, one), two))), [][]int{{2, 0}, {-10, 0}, {0, 0}, {1, 0}}},
		{list(set("y", un(api.OpNeg, a)), set("z", un(api.OpNot, c))), [][]int{{-5, 1}, {7, 0}, {-3, 1}, {-4, 0}}},
		{list(set("y", cast(api.I8, cast(api.U8, a))), set("z", cast(api.Bool, a))), [][]int{{5, 1}, {-7, 1}, {3, 1}, {4, 1}}},
		{list(set("y", choose(c, choose(d, one, two), a))), [][]int{{5, 0}, {2, 0}, {3, 0}, {1, 0}}},
		{list(set("y", bin(api.OpSub, a, choose(choose(c, d, c), one, two)))), [][]int{{3, 0}, {-9, 0}, {1, 0}, {3, 0}}},
		// statements within others
		{list(fork(c, list(set("y", one)), nil)), [][]int{{0, 0}, {1, 0}, {0, 0}, {1, 0}}},
		{list(fork(c, nil, list(set("y", one)))), [][]int{{1, 0}, {0, 0}, {1, 0}, {0, 0}}},
		{list(fork(c, nil, nil), set("y", two)), [][]int{{2, 0}, {2, 0}, {2, 0}, {2, 0}}},
		{list(fork(c, list(set("y", one), set("z", d)), list(fork(d, list(set("y", two)), list(set("z", d), set("y", a)))))), [][]int{{5, 0}, {1, 0}, {2, 0}, {1, 1}}},
		{list(fork(c, list(fork(d, list(set("y", one)), nil), set("z", c)), nil), set("y", bin(api.OpAdd, ref("y"), one))), [][]int{{1, 0}, {1, 1}, {1, 0}, {2, 1}}},
		{list(fork(c, list(fork(d, nil, nil)), list(fork(d, list(set("y", a)), nil)))), [][]int{{0, 0}, {0, 0}, {3, 0}, {0, 0}}},
		// cells stay, variables don't
		{list(set("y", ref("m")), store("m", a)), [][]int{{3, 0}, {5, 0}, {-7, 0}, {3, 0}}},
		{list(store("m", a), set("y", ref("m")), store("m", one)), [][]int{{5, 0}, {-7, 0}, {3, 0}, {4, 0}}},
		{list(set("y", ref("v")), set("v", a)), [][]int{{0, 0}, {0, 0}, {0, 0}, {0, 0}}},
		{list(set("v", a), set("y", ref("v")), set("z", ref("w"))), [][]int{{5, 0}, {-7, 0}, {3, 0}, {4, 0}}},
		{list(fork(ref("n"), list(set("v", one), store("n", c)), list(set("v", two), store("n", d))), set("y", ref("v")), set("z", ref("n"))), [][]int{{1, 0}, {2, 0}, {2, 1}, {1, 1}}},
	} {
		s := step("a.i8 c.bool d.bool", "y.i8 z.bool", "v.i8 w.bool", "m.i8.3 n.bool.1", r.body...)
		c := emitted(t, s, ins)
		if outs, e := exec.Run(c, ins); e != api.OK || !same(outs, r.want) {
			t.Errorf("%d: %v, error %d, not %v", i, outs, e, r.want)
		}
	}
}

// TestP2001Names: all sorts of names, the empty one, too; inputs and outputs that nothing names; clocks mean nothing.
func TestP2001Names(t *testing.T) {
	s := step(".i8 b.u64 c.bool", "y.u64 z.bool w.i16", "é.i8 end.u64", "cell\x00.u64.5 k.bool.1", set("é", ref("")), set("end", bin(api.OpXor, ref("b"), ref("cell\x00"))), store("cell\x00", ref("end")), set("y", bin(api.OpMul, ref("end"), cast(api.U64, ref("é")))), set("z", ref("k")))
	s.Ins[0].Clock, s.Outs[0].Clock, s.Vars[0].Clock = []api.Edge{{Name: "c"}}, []api.Edge{{Name: "nobody"}}, []api.Edge{{Name: "z", On: true}}
	c := emitted(t, s, [][]int{{1, 2, 0}, {-1, -2, 1}, {5, 1 << 62, 1}})
	if c.Cells != 2 || !slices.Equal(c.Init, []int{5, 1}) {
		t.Errorf("%+v", c)
	}
	emitted(t, api.Step{}, [][]int{{}, {}})
	emitted(t, step("a.i8", "", "", ""), [][]int{{1}, {-1}})
	emitted(t, step("", "y.i8", "", ""), [][]int{{}, {}})
	emitted(t, step("", "", "v.i8", "m.i64.-5"), [][]int{{}, {}})
}

// abc is one of three names, in turn.
func abc(i int) api.CExp { return ref(string(rune('a' + i%3))) }

// three is step code of three inputs of one kind, and an output.
func three(of, to int, body ...api.Stmt) api.Step {
	return api.Step{Ins: []api.CVar{{Name: "a", Kind: of}, {Name: "b", Kind: of}, {Name: "c", Kind: of}}, Outs: []api.CVar{{Name: "y", Kind: to}}, Body: body}
}

// chain is an operation of a kind so often within itself: on its second side, or on its first. What answers a Bool is made one of the kind again.
func chain(op, kind, long int, right bool) api.CExp {
	_, to, _ := bv.Bin(op, kind, 0, 0)
	e := abc(0)
	for i := range long {
		if i > 0 && to != kind {
			e = cast(kind, e)
		}
		if right {
			e = bin(op, abc(i+1), e)
		} else {
			e = bin(op, e, abc(i+1))
		}
	}
	return e
}

// TestP2001Operations: each operation of each kind, on two values, and as deep within itself as may be on each side.
func TestP2001Operations(t *testing.T) {
	made := 0
	for kind := api.Bool; kind <= api.U64; kind++ {
		m := newMaker(kind)
		for op := api.OpNot; op <= api.OpGe; op++ {
			_, to, ok := bv.Bin(op, kind, 0, 0)
			if !ok {
				continue
			}
			made++
			for _, long := range []int{1, 2, 61, 62, 63, 64, 65, 199} {
				for _, right := range []bool{true, false} {
					s := three(kind, to, set("y", chain(op, kind, long, right)))
					c := emitted(t, s, m.ticks(s, 50))
					if right && c.Stack != min(long+1, api.MaxStack) || !right && c.Stack != 2 {
						t.Errorf("operation %d of kind %d, %d of it: stack %d", op, kind, long, c.Stack)
					}
				}
			}
			if to == kind {
				s := three(kind, to, set("y", chain(op, kind, 399, true)))
				emitted(t, s, m.ticks(s, 50))
			}
		}
	}
	if made != 5*9+11*8+1 {
		t.Error(made)
	}
}

// TestP2001Turned: each operation at the places around that where the stack becomes full.
func TestP2001Turned(t *testing.T) {
	for kind := api.Bool; kind <= api.U64; kind++ {
		m := newMaker(kind)
		for op := api.OpNot; op <= api.OpGe; op++ {
			if _, _, ok := bv.Bin(op, kind, 0, 0); !ok {
				continue
			}
			for deep := 55; deep <= 70; deep++ {
				e := bin(api.OpXor, ref("a"), bin(api.OpAnd, ref("b"), ref("c")))
				e = cast(kind, bin(op, un(api.OpNot, ref("b")), e))
				for i := range deep {
					e = bin(api.OpXor, abc(i), e)
				}
				s := three(kind, kind, set("y", e))
				emitted(t, s, m.ticks(s, 30))
			}
		}
	}
}

func texts() []string {
	const sum = "node sum(a: i8) returns (s: i8) let s = a + (0i8 -> pre s); tel "
	return []string{
		"node f(x: i8; c: bool) returns (y: i8) let y = 0i8 -> pre y + x; tel", "node count() returns (n: u8) let n = 0u8 fby (n + 1u8); tel node f(x: i8; r: bool) returns (y: u8) let y = reset(count(), r); tel",
		"node f(x: i8; c: bool) returns (y: i8) let automaton state A do y = 0i8 fby (y + 1i8); until y = 2i8 then B; state B do y = -1i8; until true continue A; end tel",
		sum + "node f(x: i8; c: bool) returns (y: i8) var fast: bool; z: i8 when fast; let fast = tick(2, 0); z = sum(when(x, fast)); y = merge(fast, z, when(0i8 -> pre y, not fast)); tel",
		sum + "node f(x: i8; c: bool) returns (y: i8; z: bool) var k: i8 when c; let k = sum(when(x * x - 3i8, c)); z = tick(4, 1); automaton state A do y = merge(c, k, when(0i8 -> pre (y + 1i8), not c)); until y > 5i8 and c then B; state B do y = reset(sum(-x), z); until x < 0i8 continue A; end tel",
		"node f(x: i8; c: bool) returns (y: i8^3; z: i8) let y = [x, 0i8 fby x, 7i8]; z = y[0] + y[1]; tel",
		"node f(x: u64; c: bool) returns (y: u64; z: i16) let y = (x >> 3u64) / (1u64 fby x) + x mod 7u64; z = if c then cast(i16, x) else -1i16; tel",
	}
}

// TestP2001Text: step code of programs, made shorter or not.
func TestP2001Text(t *testing.T) {
	for i, text := range texts() {
		p, at, e := gram.Parse(text)
		if e != api.OK {
			t.Fatalf("%s: error %d at %d", text, e, at)
		}
		f, e := flat.Make(p, "f")
		if e != api.OK {
			t.Fatalf("%s: error %d", text, e)
		}
		s, e := obc.Make(f)
		if e != api.OK {
			t.Fatalf("%s: error %d", text, e)
		}
		ins := newMaker(i).ticks(s, 200)
		long := emitted(t, s, ins)
		s, _ = opt.Step(s)
		if short := emitted(t, s, ins); len(short.Body) > len(long.Body) {
			t.Errorf("%s: %d instructions, then %d", text, len(long.Body), len(short.Body))
		}
	}
}

// TestP2001Refused: what obc.Check refuses, whatever for, is ErrForm.
func TestP2001Refused(t *testing.T) {
	x := ref("x")
	kids := make([]api.CExp, 1)
	kids[0] = api.CExp{Form: api.EUn, Sub: api.OpNot, Kids: kids}
	round := make([]api.Stmt, 1)
	round[0] = fork(ref("b"), round, round)
	of := func(body ...api.Stmt) api.Step { return step("x.i8 b.bool", "y.i8", "v.i8", "m.i8.0", body...) }
	for i, s := range []api.Step{
		of(slices.Repeat(list(set("y", x)), 20001)...), of(set("y", kids[0])), of(round...), {Ins: make([]api.CVar, api.MaxCells+1)}, three(api.I8, api.I8, set("y", chain(api.OpAdd, api.I8, 400, true))),
		step("x.i8", "x.i8", "", ""), step("x.i8", "", "", "x.i8.0"), {Ins: []api.CVar{{Name: "x"}}}, {Cells: []api.Cell{{Name: "m", Kind: 10}}}, {Vars: []api.CVar{{Name: "x", Kind: -1}}},
		of(api.Stmt{}), of(api.Stmt{Form: 4, Name: "y", E: x}), of(api.Stmt{Form: -1, Name: "y", E: x}), of(set("y", api.CExp{})), of(set("y", api.CExp{Form: api.EWhen, Name: "b", N: 1, Kids: []api.CExp{x}})), of(set("y", api.CExp{Form: api.EMerge, Name: "b", Kids: []api.CExp{x, x}})), of(set("y", api.CExp{Form: api.EUn, Sub: api.OpNeg})), of(set("y", lit(api.I8, 128))), step("", "", "", "m.bool.2"),
		of(set("nobody", x)), of(set("x", x)), of(set("m", x)), of(store("v", x)), of(set("y", ref("nobody"))), of(set("v", ref("nobody"))), of(store("m", ref("nobody"))),
		of(set("y", ref("b"))), of(set("v", ref("b"))), of(store("m", ref("b"))), of(fork(x, nil, nil)), of(fork(lit(api.Bool, 0), list(set("y", ref("b"))), nil)), of(set("y", choose(lit(api.Bool, 1), x, ref("b")))), of(set("y", bin(api.OpAdd, lit(api.I8, 1), lit(api.U8, 1)))), of(set("v", cast(0, x))), of(set("y", bin(api.OpNot, x, x))),
	} {
		if obc.Check(s) == api.OK {
			t.Errorf("%d is taken", i)
		}
		if got, e := emit.Make(s); e != api.ErrForm || !reflect.DeepEqual(got, api.Code{}) {
			t.Errorf("%d: error %d, %.3000v", i, e, got)
		}
	}
}
