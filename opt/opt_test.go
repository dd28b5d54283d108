package opt_test

import (
	"reflect"
	"slices"
	"strconv"
	"strings"
	"testing"

	"metronome/api"
	"metronome/flat"
	"metronome/gram"
	"metronome/obc"
	"metronome/opt"
)

func lit(kind, n int) api.CExp { return api.CExp{Form: api.ELit, Kind: kind, N: n} }

func ref(name string) api.CExp { return api.CExp{Form: api.EVar, Name: name} }

func un(op int, kid api.CExp) api.CExp {
	return api.CExp{Form: api.EUn, Sub: op, Kids: []api.CExp{kid}}
}

func bin(op int, a, b api.CExp) api.CExp {
	return api.CExp{Form: api.EBin, Sub: op, Kids: []api.CExp{a, b}}
}

func choose(a, b, c api.CExp) api.CExp {
	return api.CExp{Form: api.EIf, Kids: []api.CExp{a, b, c}}
}

func cast(kind int, kid api.CExp) api.CExp {
	return api.CExp{Form: api.ECast, Kind: kind, Kids: []api.CExp{kid}}
}

func when(kid api.CExp, name string, n int) api.CExp {
	return api.CExp{Form: api.EWhen, Name: name, N: n, Kids: []api.CExp{kid}}
}

func merge(name string, a, b api.CExp) api.CExp {
	return api.CExp{Form: api.EMerge, Name: name, Kids: []api.CExp{a, b}}
}

func set(name string, e api.CExp) api.Stmt { return api.Stmt{Form: api.SSet, Name: name, E: e} }

func store(name string, e api.CExp) api.Stmt { return api.Stmt{Form: api.SStore, Name: name, E: e} }

func list(all ...api.Stmt) []api.Stmt { return all }

func fork(e api.CExp, yes, no []api.Stmt) api.Stmt {
	return api.Stmt{Form: api.SIf, E: e, Then: yes, Else: no}
}

var kindNames = []string{api.Bool: "bool", api.I8: "i8", api.I16: "i16", api.I32: "i32", api.I64: "i64", api.U8: "u8", api.U16: "u16", api.U32: "u32", api.U64: "u64"}

// vars reads variables: each a name and a kind, parted by a dot.
func vars(text string) (list []api.CVar) {
	for _, one := range strings.Fields(text) {
		name, kind, _ := strings.Cut(one, ".")
		list = append(list, api.CVar{Name: name, Kind: slices.Index(kindNames, kind)})
	}
	return list
}

// cells reads cells: each a name, a kind, and what it is at first.
func cells(text string) (list []api.Cell) {
	for _, one := range strings.Fields(text) {
		words := strings.Split(one, ".")
		n, _ := strconv.Atoi(words[2])
		list = append(list, api.Cell{Name: words[0], Kind: slices.Index(kindNames, words[1]), Init: n})
	}
	return list
}

func step(ins, outs, more, kept string, body ...api.Stmt) api.Step {
	return api.Step{Ins: vars(ins), Outs: vars(outs), Vars: vars(more), Cells: cells(kept), Body: body}
}

// text is an expression as it is read: only what its form has.
func text(e api.CExp) string {
	var kids []string
	for _, kid := range e.Kids {
		kids = append(kids, text(kid))
	}
	all := "(" + strings.Join(kids, " ") + ")"
	switch e.Form {
	case api.ELit:
		return strconv.Itoa(e.N)
	case api.EVar:
		return e.Name
	case api.EUn, api.EBin:
		return strconv.Itoa(e.Sub) + all
	case api.ECast:
		return kindNames[e.Kind] + all
	}
	return strconv.Itoa(e.Form) + all
}

// code is a list of statements as it is read.
func code(all []api.Stmt) string {
	var made []string
	for _, s := range all {
		switch s.Form {
		case api.SIf:
			made = append(made, "if "+text(s.E)+" {"+code(s.Then)+"} {"+code(s.Else)+"}")
		case api.SStore:
			made = append(made, s.Name+" <- "+text(s.E))
		default:
			made = append(made, s.Name+" := "+text(s.E))
		}
	}
	return strings.Join(made, "; ")
}

func names(s api.Step) (all []string) {
	for _, v := range s.Vars {
		all = append(all, v.Name)
	}
	for _, c := range s.Cells {
		all = append(all, c.Name)
	}
	return all
}

func same(a, b [][]int) bool { return slices.EqualFunc(a, b, slices.Equal[[]int]) }

// shortened is what Step answers: it must be all that is promised.
func shortened(t *testing.T, s api.Step, ins [][]int) api.Step {
	t.Helper()
	got, e := opt.Step(s)
	if e != api.OK || obc.Check(got) != api.OK {
		t.Fatalf("%.3000s\nerror %d, then %d of %.3000s", code(s.Body), e, obc.Check(got), code(got.Body))
	}
	if !reflect.DeepEqual(whole(reflect.ValueOf(got.Ins), false).Interface(), whole(reflect.ValueOf(s.Ins), false).Interface()) || !reflect.DeepEqual(whole(reflect.ValueOf(got.Outs), false).Interface(), whole(reflect.ValueOf(s.Outs), false).Interface()) {
		t.Fatalf("%+v, %+v: %+v, %+v", s.Ins, s.Outs, got.Ins, got.Outs)
	}
	if obc.Size(got) > obc.Size(s) {
		t.Fatalf("%.3000s\n%d, not %d: %.3000s", code(s.Body), obc.Size(got), obc.Size(s), code(got.Body))
	}
	if left := dirt(got); len(left) > 0 {
		t.Fatalf("%.3000s\n%v: %.3000s", code(s.Body), left, code(got.Body))
	}
	a, e := obc.Run(s, ins)
	b, f := obc.Run(got, ins)
	if e != f || !same(a, b) {
		t.Fatalf("%.3000s\nof %v: error %d, %v, not %d, %v: %.3000s", code(s.Body), ins, f, b, e, a, code(got.Body))
	}
	return got
}

// row is the body of step code, what it is to become, and which variables and cells are left.
type row struct {
	body []api.Stmt
	want string
	left string
}

// rows holds Step to rows.
func rows(t *testing.T, list []row) {
	t.Helper()
	for _, r := range list {
		s := step("a.i8 c.bool d.bool", "y.i8 z.bool", "v.i8 w.bool", "m.i8.3 n.bool.1", r.body...)
		var ins [][]int
		for i := range 12 {
			ins = append(ins, []int{i*5%7 - 3, i % 2, i / 2 % 2})
		}
		got := shortened(t, s, ins)
		if left := strings.Join(names(got), " "); code(got.Body) != r.want || left != r.left {
			t.Errorf("%s\nbecomes %s (%s)\nnot     %s (%s)", code(r.body), code(got.Body), left, r.want, r.left)
		}
	}
}

func TestP1801Example(t *testing.T) {
	a, one, two := ref("a"), lit(api.I8, 1), lit(api.I8, 2)
	rows(t, []row{
		{list(fork(lit(api.Bool, 1), list(set("y", bin(api.OpAdd, a, bin(api.OpAdd, one, two)))), nil)), "y := 3(a 3)", ""},
		{list(set("y", choose(lit(api.Bool, 1), bin(api.OpAdd, a, bin(api.OpAdd, one, two)), a))), "y := 3(a 3)", ""},
		{list(fork(ref("c"), list(set("y", one)), nil), fork(ref("c"), list(set("z", ref("d"))), nil)), "if c {y := 1; z := d} {}", ""},
	})
}

func TestP1801Expressions(t *testing.T) {
	a, c, yes, no := ref("a"), ref("c"), lit(api.Bool, 1), lit(api.Bool, 0)
	two := bin(api.OpMul, lit(api.I8, 2), lit(api.I8, 1))
	rows(t, []row{
		{list(set("y", un(api.OpNeg, two))), "y := -2", ""}, {list(set("y", cast(api.I8, lit(api.U8, 255)))), "y := -1", ""}, {list(set("y", bin(api.OpAdd, a, un(api.OpNeg, two)))), "y := 3(a -2)", ""},
		{list(set("y", choose(bin(api.OpLt, lit(api.U8, 200), lit(api.U8, 100)), two, a))), "y := a", ""}, {list(set("y", choose(c, two, choose(no, two, a)))), "y := 5(c 2 a)", ""}, {list(set("y", choose(choose(yes, yes, c), two, a))), "y := 2", ""},
		{list(store("m", two), set("y", ref("m"))), "m <- 2; y := m", "m"}, {list(fork(choose(no, c, ref("d")), list(set("y", a)), nil)), "if d {y := a} {}", ""}, {list(fork(c, nil, list(fork(c, list(set("y", two)), nil)))), "if c {} {if c {y := 2} {}}", ""},
		// what hangs on a name stays, whatever it is
		{list(set("y", bin(api.OpMul, a, lit(api.I8, 0)))), "y := 5(a 0)", ""}, {list(set("y", bin(api.OpSub, a, a))), "y := 4(a a)", ""}, {list(set("y", choose(c, a, a))), "y := 5(c a a)", ""}, {list(set("z", bin(api.OpOr, c, yes))), "z := 9(c 1)", ""}, {list(set("v", two), set("y", bin(api.OpAdd, ref("v"), two))), "v := 2; y := 3(v 2)", "v"},
	})
}

func TestP1801Branches(t *testing.T) {
	a, c, d, yes, no := ref("a"), ref("c"), ref("d"), lit(api.Bool, 1), lit(api.Bool, 0)
	y, z := set("y", a), set("z", d)
	rows(t, []row{
		{nil, "", ""},
		{list(fork(yes, list(y), list(z))), "y := a", ""}, {list(fork(no, list(y), list(z))), "z := d", ""}, {list(fork(yes, nil, list(z)), y), "y := a", ""}, {list(z, fork(yes, list(y, z), nil), y), "z := d; y := a; z := d; y := a", ""},
		{list(fork(c, list(fork(un(api.OpNot, no), list(y, fork(no, nil, list(z, y))), nil)), nil)), "if c {y := a; z := d; y := a} {}", ""}, {list(fork(yes, list(fork(no, list(y), list(fork(yes, list(z), nil)))), nil)), "z := d", ""},
		// nothing is done
		{list(fork(c, nil, nil)), "", ""}, {list(fork(c, list(), list()), y, fork(d, nil, nil)), "y := a", ""}, {list(fork(c, list(fork(d, nil, nil)), list(fork(no, list(y), nil)))), "", ""}, {list(fork(c, nil, list(y))), "if c {} {y := a}", ""}, {list(fork(c, list(y), nil)), "if c {y := a} {}", ""}, {list(fork(bin(api.OpEq, ref("m"), a), list(fork(ref("n"), nil, nil)), nil)), "", ""},
	})
}

func TestP1801Unread(t *testing.T) {
	a, c, m, n, v, w := ref("a"), ref("c"), ref("m"), ref("n"), ref("v"), ref("w")
	one := lit(api.I8, 1)
	rows(t, []row{
		// cells
		{list(store("m", a)), "", ""}, {list(store("m", a), set("y", a)), "y := a", ""}, {list(store("m", a), fork(c, list(store("m", one)), list(store("n", c)))), "", ""}, {list(set("y", m)), "y := m", "m"}, {list(set("y", m), store("m", a)), "y := m; m <- a", "m"}, {list(fork(n, list(set("y", a)), nil)), "if n {y := a} {}", "n"},
		{list(store("m", cast(api.I8, n)), store("n", c)), "", ""}, {list(store("n", c), store("m", cast(api.I8, n))), "", ""}, {list(store("m", cast(api.I8, n)), store("n", c), set("y", m)), "m <- i8(n); n <- c; y := m", "m n"},
		// variables
		{list(set("v", a)), "", ""}, {list(set("v", a), set("w", bin(api.OpLt, v, a))), "", ""}, {list(set("w", bin(api.OpLt, v, a)), set("v", a)), "", ""}, {list(set("v", a), set("v", one), set("y", a)), "y := a", ""}, {list(set("v", a), fork(c, list(set("v", one)), nil), set("y", v)), "v := a; if c {v := 1} {}; y := v", "v"}, {list(set("y", v)), "y := v", "v"}, {list(set("w", c), fork(w, list(set("y", a)), nil)), "w := c; if w {y := a} {}", "w"}, {list(set("w", c), fork(w, list(store("m", a)), nil)), "", ""},
		// what becomes unread by what is known ahead
		{list(store("m", a), set("v", m), set("y", choose(lit(api.Bool, 0), v, a))), "y := a", ""}, {list(set("v", a), fork(lit(api.Bool, 0), list(set("y", v)), nil)), "", ""}, {list(set("v", a), fork(bin(api.OpEq, v, one), nil, nil)), "", ""},
		// outputs stay, and what hangs on them
		{list(set("y", a), set("y", one)), "y := a; y := 1", ""}, {list(set("y", a), set("v", ref("y")), store("m", v)), "y := a", ""}, {list(set("y", ref("y"))), "y := y", ""}, {list(set("z", n), store("n", bin(api.OpEq, ref("y"), a))), "z := n; n <- 14(y a)", "n"},
		// what hangs on nothing but itself
		{list(store("m", bin(api.OpAdd, m, one))), "", ""}, {list(set("v", bin(api.OpAdd, v, one)), store("m", bin(api.OpAdd, m, v)), fork(bin(api.OpLt, m, a), list(store("m", a)), nil), set("z", c)), "z := c", ""}, {list(set("y", m), store("m", bin(api.OpAdd, m, one))), "y := m; m <- 3(m 1)", "m"},
	})
}

func TestP1801Twins(t *testing.T) {
	a, c, d, n, w := ref("a"), ref("c"), ref("d"), ref("n"), ref("w")
	y, z, y1, y2 := set("y", a), set("z", d), set("y", lit(api.I8, 1)), set("y", lit(api.I8, 2))
	less := func() api.CExp { return bin(api.OpLt, ref("y"), lit(api.I8, 0)) }
	rows(t, []row{
		{list(fork(c, list(y), list(y1)), fork(c, list(z), list(y2))), "if c {y := a; z := d} {y := 1; y := 2}", ""}, {list(fork(c, list(y), nil), fork(c, nil, list(z))), "if c {y := a} {z := d}", ""}, {list(fork(c, list(y), nil), fork(c, list(z), nil), fork(c, list(y1), nil), fork(c, nil, list(y2))), "if c {y := a; z := d; y := 1} {y := 2}", ""},
		// others
		{list(fork(c, list(y), nil), fork(d, list(z), nil)), "if c {y := a} {}; if d {z := d} {}", ""}, {list(fork(c, list(y), nil), y1, fork(c, list(z), nil)), "if c {y := a} {}; y := 1; if c {z := d} {}", ""}, {list(fork(c, list(y), nil), fork(un(api.OpNot, c), nil, list(z))), "if c {y := a} {}; if 1(c) {} {z := d}", ""},
		// conditions that have to be worked out, that are the same once they are
		{list(fork(bin(api.OpLt, a, lit(api.I8, 0)), list(y1), nil), fork(bin(api.OpLt, a, lit(api.I8, 0)), list(z), nil)), "if 16(a 0) {y := 1; z := d} {}", ""}, {list(fork(bin(api.OpLt, a, lit(api.I8, 0)), list(y1), nil), fork(bin(api.OpLt, a, lit(api.I8, 1)), list(z), nil)), "if 16(a 0) {y := 1} {}; if 16(a 1) {z := d} {}", ""}, {list(fork(bin(api.OpLt, a, lit(api.I8, 0)), list(y1), nil), fork(bin(api.OpLe, a, lit(api.I8, 0)), list(z), nil)), "if 16(a 0) {y := 1} {}; if 17(a 0) {z := d} {}", ""}, {list(fork(bin(api.OpEq, c, d), list(y1), nil), fork(bin(api.OpEq, d, c), list(z), nil)), "if 14(c d) {y := 1} {}; if 14(d c) {z := d} {}", ""}, {list(fork(bin(api.OpEq, cast(api.I16, a), lit(api.I16, 0)), list(y1), nil), fork(bin(api.OpEq, cast(api.I32, a), lit(api.I32, 0)), list(y2), nil)), "if 14(i16(a) 0) {y := 1} {}; if 14(i32(a) 0) {y := 2} {}", ""},
		{list(fork(c, list(y), nil), fork(choose(lit(api.Bool, 1), c, d), list(z), nil)), "if c {y := a; z := d} {}", ""},
		// the first changes what the condition names, the second does
		{list(fork(n, list(store("n", d)), nil), fork(n, list(y), nil)), "if n {n <- d} {}; if n {y := a} {}", "n"}, {list(fork(n, nil, list(fork(d, list(fork(c, nil, list(store("n", d)))), nil))), fork(n, list(y), nil)), "if n {} {if d {if c {} {n <- d}} {}}; if n {y := a} {}", "n"}, {list(fork(n, list(y), nil), fork(n, list(store("n", d)), nil), fork(n, list(z), nil), fork(n, list(y1), nil)), "if n {y := a; n <- d} {}; if n {z := d; y := 1} {}", "n"},
		{list(fork(less(), list(y1), nil), fork(less(), list(z), nil)), "if 16(y 0) {y := 1} {}; if 16(y 0) {z := d} {}", ""}, {list(y, fork(less(), list(z), nil), fork(less(), list(y1), nil)), "y := a; if 16(y 0) {z := d; y := 1} {}", ""}, {list(set("w", d), fork(w, list(y), nil), fork(w, list(set("w", c)), nil), set("z", w)), "w := d; if w {y := a; w := c} {}; z := w", "w"},
		// those that come to stand one behind the other
		{list(fork(c, list(y), nil), fork(d, list(store("m", a)), nil), set("v", a), fork(lit(api.Bool, 0), list(y2), nil), fork(c, list(z), nil)), "if c {y := a; z := d} {}", ""}, {list(fork(lit(api.Bool, 1), list(y1, fork(c, list(y), nil)), nil), fork(lit(api.Bool, 0), nil, list(fork(c, list(z), nil), y2))), "y := 1; if c {y := a; z := d} {}; y := 2", ""},
		// the one within the other
		{list(fork(c, list(fork(d, list(y), nil)), nil), fork(c, list(fork(d, list(z), nil)), list(y1))), "if c {if d {y := a; z := d} {}} {y := 1}", ""}, {list(fork(c, nil, list(fork(d, list(y), nil), fork(d, nil, list(y2))))), "if c {} {if d {y := a} {y := 2}}", ""}, {list(fork(c, list(fork(c, list(y), nil)), nil)), "if c {if c {y := a} {}} {}", ""},
		// what the first changes no longer counts once it is gone
		{list(set("v", a), fork(c, list(set("v", lit(api.I8, 1))), list(y)), fork(c, list(z), nil)), "if c {z := d} {y := a}", ""},
	})
	// names may be empty
	s := step(".bool b.bool", "y.bool z.bool", "", "", fork(ref(""), list(fork(ref("b"), list(set("y", ref("b"))), nil)), nil), fork(ref(""), list(set("z", ref("b"))), nil))
	if got := shortened(t, s, [][]int{{0, 0}, {1, 0}, {0, 1}, {1, 1}}); code(got.Body) != "if  {if b {y := b} {}; z := b} {}" {
		t.Error(code(got.Body))
	}
}

// TestP1801Names: what is left stands as it did, what stands for nothing is gone.
func TestP1801Names(t *testing.T) {
	s := step("x.i8", "y.i8", "a.i8 b.i8 c.i8 d.i8", "k.i8.1 l.i8.2 m.i8.-3 n.i8.4", set("b", ref("m")), set("d", ref("k")), set("a", ref("l")), set("y", bin(api.OpAdd, ref("b"), ref("d"))), store("n", ref("x")))
	s.Vars[1].Clock, s.Ins[0].Clock, s.Outs[0].Clock = []api.Edge{{Name: "c"}}, []api.Edge{{Name: "nobody", On: true}}, []api.Edge{{Name: "x"}}
	got := shortened(t, s, [][]int{{1}, {2}})
	want := step("", "", "b.i8 d.i8", "k.i8.1 m.i8.-3")
	if !reflect.DeepEqual(got.Vars, want.Vars) || !reflect.DeepEqual(got.Cells, want.Cells) {
		t.Errorf("%+v", got)
	}
}

// TestP1801Refused: what obc.Check refuses, whatever for, is ErrForm.
func TestP1801Refused(t *testing.T) {
	x := ref("x")
	kids := make([]api.CExp, 1)
	kids[0] = api.CExp{Form: api.EUn, Sub: api.OpNot, Kids: kids}
	round := make([]api.Stmt, 1)
	round[0] = fork(ref("b"), round, round)
	of := func(body ...api.Stmt) api.Step { return step("x.i8 b.bool", "y.i8", "v.i8", "m.i8.0", body...) }
	for i, s := range []api.Step{
		of(slices.Repeat(list(set("y", x)), 20001)...), of(set("y", kids[0])), of(round...), {Ins: make([]api.CVar, api.MaxCells+1)},
		step("x.i8", "x.i8", "", ""), step("x.i8", "", "", "x.i8.0"), {Ins: []api.CVar{{Name: "x"}}}, {Cells: []api.Cell{{Name: "m", Kind: 10}}}, {Vars: []api.CVar{{Name: "x", Kind: -1}}},
		of(api.Stmt{}), of(api.Stmt{Form: 4, Name: "y", E: x}), of(set("y", api.CExp{})), of(set("y", when(x, "b", 1))), of(set("y", merge("b", x, x))), of(set("y", api.CExp{Form: api.EUn, Sub: api.OpNeg})), of(set("y", lit(api.I8, 128))), step("", "", "", "m.bool.2"),
		of(set("nobody", x)), of(set("x", x)), of(set("m", x)), of(store("v", x)), of(set("y", ref("nobody"))), of(set("v", ref("nobody"))), of(store("m", ref("nobody"))),
		of(set("y", ref("b"))), of(set("v", ref("b"))), of(store("m", ref("b"))), of(fork(x, nil, nil)), of(fork(lit(api.I8, 1), nil, nil)), of(fork(lit(api.Bool, 0), list(set("y", ref("b"))), nil)), of(set("y", choose(lit(api.Bool, 1), x, ref("b")))), of(set("y", bin(api.OpAdd, lit(api.I8, 1), lit(api.U8, 1)))), of(set("v", cast(0, x))),
	} {
		if obc.Check(s) == api.OK {
			t.Errorf("%d is taken", i)
		}
		if got, e := opt.Step(s); e != api.ErrForm || !reflect.DeepEqual(got, api.Step{}) {
			t.Errorf("%d: error %d, %+v", i, e, got)
		}
	}
	if got, e := opt.Step(api.Step{}); e != api.OK || obc.Size(got) != 0 || len(names(got)) != 0 {
		t.Errorf("error %d, %+v", e, got)
	}
}

func texts() []string {
	const sum = "node sum(a: i8) returns (s: i8) let s = a + (0i8 -> pre s); tel "
	return []string{
		"node f(x: i8; c: bool) returns (y: i8) let y = 0i8 -> pre y + x; tel", "node count() returns (n: u8) let n = 0u8 fby (n + 1u8); tel node f(x: i8; r: bool) returns (y: u8) let y = reset(count(), r); tel",
		"node f(x: i8; c: bool) returns (y: i8) let automaton state A do y = 0i8 fby (y + 1i8); until y = 2i8 then B; state B do y = -1i8; until true continue A; end tel",
		sum + "node f(x: i8; c: bool) returns (y: i8) var fast: bool; z: i8 when fast; let fast = tick(2, 0); z = sum(when(x, fast)); y = merge(fast, z, when(0i8 -> pre y, not fast)); tel",
		sum + "node f(x: i8; c: bool) returns (y: i8; z: bool) var k: i8 when c; let k = sum(when(x * x - 3i8, c)); z = tick(4, 1); automaton state A do y = merge(c, k, when(0i8 -> pre (y + 1i8), not c)); until y > 5i8 and c then B; state B do y = reset(sum(-x), z); until x < 0i8 continue A; end tel",
		"node f(x: i8; c: bool) returns (y: i8^3; z: i8) let y = [x, 0i8 fby x, 7i8]; z = y[0] + y[1]; tel",
		"node f(x: i8; c: bool) returns (y: i8) var u: i8; let u = 0i8 -> pre u + sum(x); y = if 1i8 + 1i8 = 2i8 then x * (2i8 + 3i8) else u; tel " + sum,
	}
}

// TestP1801Text: step code of programs.
func TestP1801Text(t *testing.T) {
	for i, text := range texts() {
		p, at, e := gram.Parse(text)
		if e != api.OK {
			t.Fatalf("%s: error %d at %d", text, e, at)
		}
		c, e := flat.Make(p, "f")
		if e != api.OK {
			t.Fatalf("%s: error %d", text, e)
		}
		s, e := obc.Make(c)
		if e != api.OK {
			t.Fatalf("%s: error %d", text, e)
		}
		got := shortened(t, s, newMaker(i).ticks(s, 200))
		if i == len(texts())-1 && (code(got.Body) != "y := 5(x 5)" || len(names(got)) != 0) {
			t.Error(code(got.Body))
		}
	}
}
