package normal_test

import (
	"reflect"
	"slices"
	"strconv"
	"strings"
	"testing"

	"metronome/api"
	"metronome/core"
	"metronome/flat"
	"metronome/gram"
	"metronome/normal"
)

func lit(kind, n int) api.CExp { return api.CExp{Form: api.ELit, Kind: kind, N: n} }

func ref(name string) api.CExp { return api.CExp{Form: api.EVar, Name: name} }

func un(op int, kid api.CExp) api.CExp {
	return api.CExp{Form: api.EUn, Sub: op, Kids: []api.CExp{kid}}
}

func bin(op int, a, b api.CExp) api.CExp {
	return api.CExp{Form: api.EBin, Sub: op, Kids: []api.CExp{a, b}}
}

func choose(a, b, c api.CExp) api.CExp {
	return api.CExp{Form: api.EIf, Kids: []api.CExp{a, b, c}}
}

func cast(kind int, kid api.CExp) api.CExp {
	return api.CExp{Form: api.ECast, Kind: kind, Kids: []api.CExp{kid}}
}

func when(kid api.CExp, name string, n int) api.CExp {
	return api.CExp{Form: api.EWhen, Name: name, N: n, Kids: []api.CExp{kid}}
}

func merge(name string, a, b api.CExp) api.CExp {
	return api.CExp{Form: api.EMerge, Name: name, Kids: []api.CExp{a, b}}
}

func def(name string, e api.CExp) api.CEq { return api.CEq{Form: api.CDef, Name: name, E: e} }

func mem(name string, init int, next, reset string) api.CEq {
	return api.CEq{Form: api.CMem, Name: name, Init: init, Next: next, Reset: reset}
}

func tick(name string, period, offset int) api.CEq {
	return api.CEq{Form: api.CTick, Name: name, Period: period, Offset: offset}
}

var kindNames = map[string]int{"bool": api.Bool, "i8": api.I8, "i16": api.I16, "i32": api.I32, "i64": api.I64, "u8": api.U8, "u16": api.U16, "u32": api.U32, "u64": api.U64}

// vars reads variables: each a name, a kind, and the edges of its clock, all parted by a dot; ! is not.
func vars(text string) (list []api.CVar) {
	for _, one := range strings.Fields(text) {
		words := strings.Split(one, ".")
		v := api.CVar{Name: words[0], Kind: kindNames[words[1]]}
		for _, name := range words[2:] {
			v.Clock = append(v.Clock, api.Edge{Name: strings.TrimPrefix(name, "!"), On: name[0] != '!'})
		}
		list = append(list, v)
	}
	return list
}

func program(ins, outs, locals string, eqs ...api.CEq) api.Core {
	return api.Core{Ins: vars(ins), Outs: vars(outs), Locals: vars(locals), Eqs: eqs}
}

func same(a, b [][]int) bool { return slices.EqualFunc(a, b, slices.Equal[[]int]) }

// inner are all parts of an expression, itself the first.
func inner(e api.CExp) []api.CExp {
	list := []api.CExp{e}
	for i := 0; i < len(list); i++ {
		list = append(list, list[i].Kids...)
	}
	return list
}

// named is how many equations must be added: one for each part that is no leaf and not an equation's own expression.
func named(c api.Core) (count int) {
	for _, q := range c.Eqs {
		if q.Form == api.CDef {
			for _, e := range inner(q.E)[1:] {
				if len(e.Kids) > 0 {
					count++
				}
			}
		}
	}
	return count
}

func hasPlain(c api.Core) bool {
	for _, q := range c.Eqs {
		if q.Form == api.CDef {
			for _, kid := range q.E.Kids {
				if kid.Form != api.ELit && kid.Form != api.EVar {
					return false
				}
			}
		}
	}
	return true
}

func sameVars(a, b []api.CVar) bool {
	return slices.EqualFunc(a, b, func(v, w api.CVar) bool {
		return v.Name == w.Name && v.Kind == w.Kind && slices.Equal(v.Clock, w.Clock)
	})
}

// made is what Make answers; it is held to all that can be seen of it without a run.
func made(t *testing.T, c api.Core) api.Core {
	t.Helper()
	n, e := normal.Make(c)
	if e != api.OK {
		t.Fatalf("%+v\nerror %d", c, e)
	}
	if e := core.Check(n); e != api.OK || !hasPlain(n) || !normal.Is(n) {
		t.Fatalf("%+v\n%+v: error %d, plain: %t", c, n, e, hasPlain(n))
	}
	if !sameVars(n.Ins, c.Ins) || !sameVars(n.Outs, c.Outs) || !sameVars(n.Locals[:len(c.Locals)], c.Locals) {
		t.Fatalf("%+v\n%+v", c, n)
	}
	if want := len(c.Eqs) + named(c); len(n.Eqs) != want || len(n.Locals) != len(c.Locals)+named(c) {
		t.Fatalf("%+v\n%+v: not %d equations", c, n, want)
	}
	for _, q := range c.Eqs {
		if q.Form != api.CDef && !slices.ContainsFunc(n.Eqs, func(r api.CEq) bool { return stands(q, r) }) {
			t.Fatalf("%+v\n%+v: no %+v", c, n, q)
		}
	}
	return n
}

// stands tells whether a memory or a tick is another one, and no expression is left in that.
func stands(q, r api.CEq) bool {
	q.E = api.CExp{}
	return reflect.DeepEqual(q, r)
}

// means holds what Make answers to what the program means.
func means(t *testing.T, c api.Core, ins [][]int) {
	t.Helper()
	n := made(t, c)
	want, e := core.Run(c, ins)
	if e != api.OK {
		t.Fatalf("%+v\nerror %d", c, e)
	}
	if got, e := core.Run(n, ins); e != api.OK || !same(got, want) {
		t.Fatalf("%+v\n%+v\nof %v: error %d, %v, not %v", c, n, ins, e, got, want)
	}
}

func TestP1402Example(t *testing.T) {
	c := program("a.i8 b.i8 c.i8", "y.i8", "", def("y", bin(api.OpMul, bin(api.OpAdd, ref("a"), ref("b")), ref("c"))))
	n := made(t, c)
	part := n.Locals[0].Name
	want := program("a.i8 b.i8 c.i8", "y.i8", part+".i8", def(part, bin(api.OpAdd, ref("a"), ref("b"))), def("y", bin(api.OpMul, ref(part), ref("c"))))
	if !reflect.DeepEqual(n, want) {
		t.Errorf("%+v, not %+v", n, want)
	}
	outs, e := core.Run(n, [][]int{{1, 2, 3}, {100, 27, 1}, {100, 28, 1}})
	if e != api.OK || !same(outs, [][]int{{9}, {127}, {-128}}) {
		t.Errorf("error %d, %v", e, outs)
	}
}

func TestP1401Rules(t *testing.T) {
	x, b, sum := ref("x"), ref("b"), bin(api.OpAdd, ref("x"), lit(api.I8, 1))
	not, one := un(api.OpNot, ref("b")), lit(api.I8, 1)
	of := func(kind string, e api.CExp) api.Core {
		return program("x.i8 b.bool", "y."+kind, "", def("y", e))
	}
	on := func(e api.CExp) api.Core {
		return program("x.i8 b.bool", "", "l.i8.b", def("l", e))
	}
	for _, r := range []struct {
		want bool
		list []api.Core
	}{
		{true, []api.Core{{}, program("x.i8", "", ""), of("i8", one), of("i8", x), of("i8", un(api.OpNeg, x)), of("i8", un(api.OpNeg, one)), of("i8", sum), of("i8", bin(api.OpAdd, one, one)), of("i8", choose(b, x, one)), of("i8", choose(lit(api.Bool, 1), one, x)), of("u8", cast(api.U8, x)), of("bool", merge("b", lit(api.Bool, 0), lit(api.Bool, 1))), on(when(x, "b", 1)), on(when(one, "b", 1)),
			program("x.i8 b.bool", "y.i8 z.bool", "", mem("y", 0, "x", "b"), tick("z", 3, 1)), program("x.i8 b.bool", "y.i8", "l.i8.b", def("y", merge("b", ref("l"), one)), mem("l", 0, "l", ""))}},
		{false, []api.Core{of("i8", un(api.OpNeg, sum)), of("i8", bin(api.OpAdd, sum, x)), of("i8", bin(api.OpAdd, x, sum)), of("i8", bin(api.OpAdd, one, un(api.OpNeg, one))), of("i8", choose(not, x, x)), of("i8", choose(b, sum, x)), of("i8", choose(b, x, sum)), of("u8", cast(api.U8, sum)), of("i8", cast(api.I8, cast(api.I8, x))), on(when(sum, "b", 1)), of("i8", merge("b", when(x, "b", 1), one)), of("i8", merge("b", one, when(x, "b", 0))), of("i8", merge("b", one, un(api.OpNeg, one))),
			program("x.i8 b.bool", "y.i8 z.i8", "", def("y", x), def("z", un(api.OpNeg, sum))), program("x.i8 b.bool", "y.i8 z.i8", "", def("z", un(api.OpNeg, sum)), def("y", x))}},
	} {
		for _, c := range r.list {
			if e := core.Check(c); e != api.OK || normal.Is(c) != r.want {
				t.Errorf("%+v\nerror %d, not %t", c, e, r.want)
			}
		}
	}
	// what is plain, but wrong
	for _, c := range []api.Core{of("i8", b), of("i8", ref("y")), of("i8", ref("nobody")), of("i8", lit(api.I8, 128)), of("i8", when(x, "b", 1)), of("i8", api.CExp{}), of("none", x), program("x.i8", "y.i8", ""), program("x.i8", "y.i8", "", def("y", x), def("y", x)), {Ins: make([]api.CVar, api.MaxEqs+1)}} {
		if normal.Is(c) {
			t.Errorf("%+v", c)
		}
	}
}

// TestP1401Fields: of a memory and of a tick no expression is looked at.
func TestP1401Fields(t *testing.T) {
	c := program("x.i8", "y.i8 z.bool", "", mem("y", 0, "x", ""), tick("z", 3, 1))
	for i := range c.Eqs {
		c.Eqs[i].E = un(api.OpNeg, un(api.OpNeg, ref("nobody")))
	}
	if !normal.Is(c) {
		t.Errorf("%+v", c)
	}
}

// TestP1401Made: Is tells of made programs, right and wrong ones, what its words say.
func TestP1401Made(t *testing.T) {
	shown := map[[2]bool]int{}
	for seed := range 6000 {
		m := newMaker(seed)
		c := m.program()
		if seed%3 == 0 {
			c = made(t, c)
		}
		if seed%5 == 0 {
			spoil(m.r, reflect.ValueOf(&c).Elem())
		}
		is := [2]bool{core.Check(c) == api.OK, hasPlain(c)}
		if normal.Is(c) != (is[0] && is[1]) {
			t.Fatalf("%+v\n%v", c, is)
		}
		shown[is]++
	}
	if len(shown) < 4 || shown[[2]bool{true, false}] < 500 || shown[[2]bool{false, true}] < 100 {
		t.Error(shown)
	}
}

// TestP1402Made: made programs, as they are and taken apart, tell the same; all forms are within one another.
func TestP1402Made(t *testing.T) {
	shown := map[[3]int]int{}
	for seed := range 8000 {
		m := newMaker(seed)
		c := m.program()
		means(t, c, m.ticks(c, 12))
		for _, q := range c.Eqs {
			for _, e := range inner(q.E) {
				for i, kid := range e.Kids {
					shown[[3]int{e.Form, i, kid.Form}]++
				}
			}
		}
	}
	inside := []int{api.EUn, api.EBin, api.EIf, api.ECast, api.EWhen, api.EMerge}
	for form, kids := range map[int]int{api.EUn: 1, api.EBin: 2, api.EIf: 3, api.ECast: 1, api.EWhen: 1, api.EMerge: 2} {
		for i := range kids {
			for _, kid := range inside {
				if shown[[3]int{form, i, kid}] < 10 {
					t.Errorf("%d, %d, %d: %d times", form, i, kid, shown[[3]int{form, i, kid}])
				}
			}
		}
	}
}

// TestP1402Parts has each form that is to be taken apart, of all kinds, with what the new variable must be.
func TestP1402Parts(t *testing.T) {
	x, b, d := ref("x"), ref("b"), ref("d")
	one, yes := lit(api.I8, 1), lit(api.Bool, 1)
	neg := un(api.OpNeg, x)
	given := "x.i8 b.bool d.bool u.u64"
	l := def("l", when(d, "b", 1))
	for i, r := range []struct {
		c    api.Core
		want string // the new variables, in order; # is the name
	}{
		{program(given, "y.i8", "", def("y", un(api.OpNot, neg))), "#.i8"},
		{program(given, "y.bool", "", def("y", un(api.OpNot, bin(api.OpLt, ref("u"), ref("u"))))), "#.bool"},
		{program(given, "y.bool", "", def("y", bin(api.OpEq, bin(api.OpAdd, ref("u"), ref("u")), cast(api.U64, x)))), "#.u64 #.u64"},
		{program(given, "y.i8", "", def("y", choose(un(api.OpNot, b), neg, bin(api.OpSub, one, one)))), "#.bool #.i8 #.i8"},
		{program(given, "y.u16", "", def("y", cast(api.U16, cast(api.I32, b)))), "#.i32"},
		{program(given, "y.i8", "", def("y", merge("b", when(x, "b", 1), when(neg, "b", 0)))), "#.i8.b #.i8 #.i8.!b"},
		{program(given, "y.i8", "", def("y", merge("b", un(api.OpNeg, one), un(api.OpNot, one)))), "#.i8.b #.i8.!b"},
		{program(given, "y.bool", "", def("y", merge("b", when(un(api.OpNot, d), "b", 1), un(api.OpNot, yes)))), "#.bool #.bool.b #.bool.!b"},
		{program(given, "", "k.i8.b", def("k", when(neg, "b", 1))), "#.i8"},
		{program(given, "", "k.i8.!b", def("k", un(api.OpNot, when(neg, "b", 0)))), "#.i8 #.i8.!b"},
		{program(given, "", "k.i8.!b", def("k", un(api.OpNot, un(api.OpNot, one)))), "#.i8.!b"},
		{program(given, "", "l.bool.b k.i8.b.!l", l, def("k", when(when(neg, "b", 1), "l", 0))), "#.i8 #.i8.b"},
		{program(given, "y.i8", "l.bool.b k.i8.b.!l", l, def("k", when(when(x, "b", 1), "l", 0)), def("y", merge("b", merge("l", un(api.OpNeg, one), un(api.OpNot, ref("k"))), one))), "#.i8.b #.i8.b.l #.i8.b.!l #.i8.b"},
		{program(given, "y.bool", "l.bool.b", l, def("y", merge("b", merge("l", yes, bin(api.OpEq, lit(api.U64, -1), lit(api.U64, -1))), yes))), "#.bool.b.!l #.bool.b"},
	} {
		n := made(t, r.c)
		words := strings.Split(r.want, "#")
		text := words[0]
		for k, v := range n.Locals[len(r.c.Locals):] {
			text += v.Name + words[min(k+1, len(words)-1)]
		}
		if got := n.Locals[len(r.c.Locals):]; !sameVars(got, vars(text)) {
			t.Errorf("%d: %+v, not %s", i, got, r.want)
		}
		means(t, r.c, newMaker(i).ticks(r.c, 20))
	}
}

// TestP1402Text: programs of texts, made flat, tell what they told.
func TestP1402Text(t *testing.T) {
	text := "node sum(a: i8) returns (s: i8) let s = a + (0i8 -> pre s); tel node f(x: i8; c: bool) returns (y: i8; z: bool) var k: i8 when c; let k = sum(when(x * x - 3i8, c)); z = tick(4, 1); automaton state A do y = merge(c, k, when(0i8 -> pre (y + 1i8), not c)); until y > 5i8 and c then B; state B do y = reset(sum(-x), z); until x < 0i8 continue A; end tel"
	p, at, e := gram.Parse(text)
	if e != api.OK {
		t.Fatalf("error %d at %d", e, at)
	}
	c, e := flat.Make(p, "f")
	if e != api.OK {
		t.Fatalf("error %d", e)
	}
	if normal.Is(c) {
		t.Errorf("%+v", c)
	}
	means(t, c, newMaker(1).ticks(c, 200))
}

// TestP1402Stands: memories and ticks go on as they are, also what they have of the other's; all else that a form does not have is nothing.
func TestP1402Stands(t *testing.T) {
	c := program("x.i8 r.bool", "y.i8 z.bool", "", mem("y", 5, "x", "r"), tick("z", 7, 3))
	c.Eqs[0].Period, c.Eqs[0].Offset, c.Eqs[1].Init = 9, -4, 300
	want := slices.Clone(c.Eqs)
	for i := range c.Eqs {
		c.Eqs[i].E = un(api.OpNeg, un(api.OpNeg, ref("nobody")))
	}
	c.Eqs[1].Next, c.Eqs[1].Reset = "nobody", "nobody"
	if n, e := normal.Make(c); e != api.OK || !reflect.DeepEqual(n.Eqs, want) {
		t.Errorf("error %d, %+v, not %+v", e, n.Eqs, want)
	}
}

// TestP1402Fields: what a form does not have is not looked at, and is nothing in the answer.
func TestP1402Fields(t *testing.T) {
	for seed := range 500 {
		c := newMaker(seed).program()
		want := made(t, c)
		for i := range c.Eqs {
			if q := &c.Eqs[i]; q.Form == api.CDef {
				junk(&q.E)
				q.Init, q.Next, q.Reset, q.Period, q.Offset = 1<<40, "nobody", "nobody", -1, 1000
			}
		}
		if got, e := normal.Make(c); e != api.OK || !reflect.DeepEqual(got, want) {
			t.Fatalf("%+v\nerror %d, %+v, not %+v", c, e, got, want)
		}
	}
}

func junk(e *api.CExp) {
	for i := range e.Kids {
		junk(&e.Kids[i])
	}
	if !slices.Contains([]int{api.EVar, api.EWhen, api.EMerge}, e.Form) {
		e.Name = "nobody"
	}
	if e.Form != api.EUn && e.Form != api.EBin {
		e.Sub = -5
	}
	if e.Form != api.ELit && e.Form != api.ECast {
		e.Kind = 55
	}
	if e.Form != api.ELit && e.Form != api.EWhen {
		e.N = 1 << 40
	}
}

// TestP1402Names: new names are no names of the program, whichever it has.
func TestP1402Names(t *testing.T) {
	c := program("x.i8", "y.i8", "", def("y", chain(40)))
	for range 5 {
		n := made(t, c)
		own := n.Locals[len(c.Locals):]
		if len(own) < 30 {
			t.Fatal(own)
		}
		// the program has the new names itself from now on: an input, an output, locals
		c = program("x.i8", "", "", def("y", chain(40)))
		c.Ins = append(c.Ins, api.CVar{Name: own[0].Name, Kind: api.Bool})
		c.Outs = append(c.Outs, api.CVar{Name: own[1].Name, Kind: api.I8}, api.CVar{Name: "y", Kind: api.I8})
		c.Eqs = append(c.Eqs, def(own[1].Name, chain(3)))
		for _, v := range own[2:10] {
			c.Locals = append(c.Locals, v)
			c.Eqs = append(c.Eqs, mem(v.Name, 7, "y", ""))
		}
		means(t, c, [][]int{{1, 0}, {2, 1}, {-7, 0}})
	}
}

// chain is an expression that is so deep.
func chain(deep int) api.CExp {
	e := ref("x")
	for range deep - 1 {
		e = un(api.OpNot, e)
	}
	return e
}

// TestP1402Twice: what is plain already stays as it is.
func TestP1402Twice(t *testing.T) {
	for seed := range 500 {
		n := made(t, newMaker(seed).program())
		if again := made(t, n); !reflect.DeepEqual(again, n) {
			t.Fatalf("%+v, then %+v", n, again)
		}
	}
}

// chains has some inputs, and outputs each of which is a chain that is so deep.
func chains(ins int, deep ...int) (c api.Core) {
	for i := range ins {
		c.Ins = append(c.Ins, api.CVar{Name: "x" + strings.Repeat("i", i), Kind: api.I8})
	}
	for i, d := range deep {
		name := "y" + strconv.Itoa(i)
		c.Outs = append(c.Outs, api.CVar{Name: name, Kind: api.I8})
		c.Eqs = append(c.Eqs, def(name, chain(d)))
	}
	return c
}

func TestP1402Long(t *testing.T) {
	full := slices.Repeat([]int{400}, 5) // each has 399 parts that are no leaf: 1995 variables in all
	wide := func(count int) []int { return append(slices.Clone(full), count) }
	for _, r := range []struct {
		ins  int
		deep []int
		want api.Errno
	}{
		{1, full, api.OK}, {5, full, api.OK}, {6, full, api.ErrLong}, {1, wide(5), api.OK}, {1, wide(6), api.ErrLong}, {4, wide(2), api.OK}, {5, wide(2), api.ErrLong}, {1, wide(400), api.ErrLong}, {1, slices.Repeat([]int{3}, 999), api.OK}, {2, slices.Repeat([]int{3}, 999), api.OK}, {3, slices.Repeat([]int{3}, 999), api.ErrLong}, {1, slices.Repeat([]int{3}, 1000), api.ErrLong}, {1, slices.Repeat([]int{2}, 1999), api.OK}, {1, slices.Repeat([]int{400}, 1999), api.ErrLong},
	} {
		c := chains(r.ins, r.deep...)
		if e := core.Check(c); e != api.OK {
			t.Fatalf("error %d", e)
		}
		n, e := normal.Make(c)
		if e != r.want || e != api.OK && !reflect.DeepEqual(n, api.Core{}) {
			t.Errorf("%d, %d of %v: error %d, not %d", r.ins, len(r.deep), r.deep[len(r.deep)-1:], e, r.want)
		}
		if e == api.OK {
			made(t, c)
		}
	}
	// what is not looked at does not count
	c := chains(1, wide(5)...)
	c.Eqs[5] = mem("y5", 0, "y0", "")
	c.Eqs[5].E = chain(300)
	if _, e := normal.Make(c); e != api.OK {
		t.Errorf("error %d", e)
	}
}

func TestP1402Refused(t *testing.T) {
	wrong := []api.Core{program("x.i8", "y.i8", ""), program("x.i8 b.bool", "y.i8", "", def("y", ref("b"))), program("x.i8", "y.i8", "", def("y", ref("y"))), program("x.i8", "y.i8", "", def("y", ref("nobody"))), program("x.i8 b.bool", "y.i8", "", def("y", when(ref("x"), "b", 1))), program("x.i8", "y.i8", "", def("y", api.CExp{Form: api.EPre, Kids: []api.CExp{ref("x")}})), program("x.i8", "y.i8", "", def("y", chain(401))), {Eqs: make([]api.CEq, api.MaxEqs+1)}, {Ins: make([]api.CVar, api.MaxEqs+1)}, {Eqs: []api.CEq{{}}}, {Eqs: []api.CEq{{Form: -1, E: api.CExp{Form: 1 << 40}}}}}
	long := chains(1, slices.Repeat([]int{400}, 6)...) // too long, and wrong
	long.Outs[0].Kind = api.Bool
	for i, c := range append(wrong, long) {
		if n, e := normal.Make(c); e != api.ErrForm || !reflect.DeepEqual(n, api.Core{}) {
			t.Errorf("%d: error %d, %+v", i, e, n)
		}
	}
	for i, c := range []api.Core{{}, program("x.i8", "", "")} {
		if n, e := normal.Make(c); e != api.OK || len(n.Eqs) > 0 || !sameVars(n.Ins, c.Ins) {
			t.Errorf("%d: error %d, %+v", i, e, n)
		}
	}
}
