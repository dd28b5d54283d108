package sched_test

import (
	"reflect"
	"slices"
	"strconv"
	"strings"
	"testing"

	"metronome/api"
	"metronome/core"
	"metronome/flat"
	"metronome/gram"
	"metronome/normal"
	"metronome/sched"
)

func lit(kind, n int) api.CExp { return api.CExp{Form: api.ELit, Kind: kind, N: n} }

func ref(name string) api.CExp { return api.CExp{Form: api.EVar, Name: name} }

func un(op int, kid api.CExp) api.CExp {
	return api.CExp{Form: api.EUn, Sub: op, Kids: []api.CExp{kid}}
}

func bin(op int, a, b api.CExp) api.CExp {
	return api.CExp{Form: api.EBin, Sub: op, Kids: []api.CExp{a, b}}
}

func choose(a, b, c api.CExp) api.CExp {
	return api.CExp{Form: api.EIf, Kids: []api.CExp{a, b, c}}
}

func cast(kind int, kid api.CExp) api.CExp {
	return api.CExp{Form: api.ECast, Kind: kind, Kids: []api.CExp{kid}}
}

func when(kid api.CExp, name string, n int) api.CExp {
	return api.CExp{Form: api.EWhen, Name: name, N: n, Kids: []api.CExp{kid}}
}

func merge(name string, a, b api.CExp) api.CExp {
	return api.CExp{Form: api.EMerge, Name: name, Kids: []api.CExp{a, b}}
}

func def(name string, e api.CExp) api.CEq { return api.CEq{Form: api.CDef, Name: name, E: e} }

func mem(name string, init int, next, reset string) api.CEq {
	return api.CEq{Form: api.CMem, Name: name, Init: init, Next: next, Reset: reset}
}

func tick(name string, period, offset int) api.CEq {
	return api.CEq{Form: api.CTick, Name: name, Period: period, Offset: offset}
}

var kindNames = map[string]int{"bool": api.Bool, "i8": api.I8, "i16": api.I16, "i32": api.I32, "i64": api.I64, "u8": api.U8, "u16": api.U16, "u32": api.U32, "u64": api.U64}

// vars reads variables: each a name, a kind, and the edges of its clock, all parted by a dot; ! is not.
func vars(text string) (list []api.CVar) {
	for _, one := range strings.Fields(text) {
		words := strings.Split(one, ".")
		v := api.CVar{Name: words[0], Kind: kindNames[words[1]]}
		for _, name := range words[2:] {
			v.Clock = append(v.Clock, api.Edge{Name: strings.TrimPrefix(name, "!"), On: name[0] != '!'})
		}
		list = append(list, v)
	}
	return list
}

func program(ins, outs, locals string, eqs ...api.CEq) api.Core {
	return api.Core{Ins: vars(ins), Outs: vars(outs), Locals: vars(locals), Eqs: eqs}
}

// hangs are the equations that an equation hangs on, as the chapter says it.
func hangs(c api.Core, at int) (list []int) {
	q := c.Eqs[at]
	var names []string
	for _, v := range slices.Concat(c.Outs, c.Locals) {
		if v.Name == q.Name {
			for _, edge := range v.Clock {
				names = append(names, edge.Name)
			}
		}
	}
	if q.Form == api.CMem && q.Reset != "" {
		names = append(names, q.Reset)
	}
	if q.Form == api.CDef {
		exps := []api.CExp{q.E}
		for i := 0; i < len(exps); i++ {
			exps = append(exps, exps[i].Kids...)
			if slices.Contains([]int{api.EVar, api.EWhen, api.EMerge}, exps[i].Form) {
				names = append(names, exps[i].Name)
			}
		}
	}
	for by, other := range c.Eqs {
		if slices.Contains(names, other.Name) {
			list = append(list, by)
		}
	}
	return list
}

// web has of each equation those that it hangs on.
func web(c api.Core) (list [][]int) {
	for at := range c.Eqs {
		list = append(list, hangs(c, at))
	}
	return list
}

// wantOrder tries the numbers at each place from the lowest on.
func wantOrder(on [][]int) (order []int) {
	for range on {
		for at := range on {
			if !slices.Contains(order, at) && !slices.ContainsFunc(on[at], func(by int) bool { return !slices.Contains(order, by) }) {
				order = append(order, at)
				break
			}
		}
	}
	return order
}

// wantLevels lifts each equation until all stand right.
func wantLevels(on [][]int) []int {
	levels := make([]int, len(on))
	for range on {
		for at, list := range on {
			for _, by := range list {
				levels[at] = max(levels[at], levels[by]+1)
			}
		}
	}
	return levels
}

// holds holds what is answered of a program that is right to the chapter's words.
func holds(t *testing.T, c api.Core) {
	t.Helper()
	on := web(c)
	if order, e := sched.Order(c); e != api.OK || len(order) != len(c.Eqs) || !slices.Equal(order, wantOrder(on)) {
		t.Fatalf("%+v\nerror %d, order %v, not %v", c, e, order, wantOrder(on))
	}
	if levels, e := sched.Levels(c); e != api.OK || !slices.Equal(levels, wantLevels(on)) {
		t.Fatalf("%+v\nerror %d, levels %v, not %v", c, e, levels, wantLevels(on))
	}
}

// tells asks for an order and for levels that are written out.
func tells(t *testing.T, c api.Core, order, levels []int) {
	t.Helper()
	if e := core.Check(c); e != api.OK {
		t.Fatalf("%+v\nerror %d", c, e)
	}
	if got, e := sched.Order(c); e != api.OK || !slices.Equal(got, order) {
		t.Errorf("%+v\nerror %d, order %v, not %v", c, e, got, order)
	}
	if got, e := sched.Levels(c); e != api.OK || !slices.Equal(got, levels) {
		t.Errorf("%+v\nerror %d, levels %v, not %v", c, e, got, levels)
	}
}

func TestP1501P1502Example(t *testing.T) {
	c := program("x.i8", "y.i8", "t.i8 m.i8", def("y", bin(api.OpAdd, ref("t"), ref("x"))), def("t", ref("m")), mem("m", 0, "y", ""))
	tells(t, c, []int{2, 1, 0}, []int{2, 1, 0})
}

// TestP1501P1502Hangs has each way in which one equation hangs on another, and those in which it does not.
func TestP1501P1502Hangs(t *testing.T) {
	given := "x.i8 b.bool c.bool"
	x, one, l := ref("x"), lit(api.I8, 1), ref("l")
	of := func(e api.CExp) api.Core { // 0 hangs on 1 by an expression
		return program(given, "y.i8", "l.i8", def("y", e), def("l", x))
	}
	bools := func(outs, locals string, eqs ...api.CEq) api.Core {
		return program(given, outs, "k.bool "+locals, append(eqs, def("k", ref("b")))...)
	}
	for i, c := range []api.Core{
		of(l), of(un(api.OpNeg, l)), of(bin(api.OpAdd, l, x)), of(bin(api.OpAdd, x, l)), of(choose(ref("b"), l, x)), of(choose(ref("b"), x, l)), of(choose(bin(api.OpEq, l, x), x, x)), of(cast(api.I8, l)), of(cast(api.I8, un(api.OpNot, bin(api.OpSub, one, l)))), of(bin(api.OpAdd, l, l)), of(merge("b", when(l, "b", 1), when(x, "b", 0))), of(merge("b", one, when(l, "b", 0))),
		bools("y.i8", "", def("y", merge("k", one, one))), bools("y.i8", "", def("y", choose(ref("k"), one, one))), bools("y.i8", "", def("y", bin(api.OpAdd, x, merge("k", when(x, "k", 1), one)))),
		bools("", "l.i8.k", def("l", when(x, "k", 1))), bools("", "l.i8.!k", def("l", when(x, "k", 0))), bools("", "l.i8.k", def("l", one)), bools("", "l.i8.k", mem("l", 0, "l", "")), bools("y.i8", "", mem("y", 0, "x", "k")), bools("y.i8", "", mem("y", 0, "y", "k")),
	} {
		if got := hangs(c, 0); !slices.Equal(got, []int{1}) {
			t.Errorf("%d: %v", i, got)
		}
		tells(t, c, []int{1, 0}, []int{1, 0})
	}
	// none of these hang: Next, a tick, inputs, a memory's own variable
	for _, c := range []api.Core{
		program(given, "y.i8", "l.i8", mem("y", 0, "l", ""), def("l", x)), program(given, "y.i8", "l.i8", mem("y", 0, "l", "b"), mem("l", 0, "y", "b")), program(given, "y.i8", "l.i8", mem("y", 0, "y", ""), def("l", one)), program(given, "y.bool z.bool", "", tick("y", 3, 1), tick("z", 3, 1)), program(given, "y.i8", "l.i8.b", def("y", merge("b", one, one)), def("l", when(x, "b", 1))),
	} {
		tells(t, c, []int{0, 1}, []int{0, 0})
	}
}

// TestP1501P1502Lowest: what is free later stands ahead, if its number is lower.
func TestP1501P1502Lowest(t *testing.T) {
	x, a, b := ref("x"), ref("a"), ref("b")
	tells(t, program("x.i8", "y.i8", "a.i8 b.i8 c.i8 d.i8", def("b", a), def("c", x), def("a", x), def("d", b), def("y", bin(api.OpAdd, x, x))), []int{1, 2, 0, 3, 4}, []int{1, 0, 0, 2, 0})
	tells(t, program("x.i8", "y.i8", "a.i8 b.i8 c.i8 d.i8", def("d", bin(api.OpAdd, b, ref("c"))), def("y", ref("c")), def("b", a), def("c", x), def("a", x)), []int{3, 1, 4, 2, 0}, []int{2, 1, 1, 0, 0})
	tells(t, program("x.i8", "y.i8", "a.i8 b.i8", def("y", x), def("a", x), def("b", x)), []int{0, 1, 2}, []int{0, 0, 0})
	tells(t, program("x.i8", "y.i8", "a.i8 b.i8", def("b", x), def("y", bin(api.OpAdd, a, b)), def("a", b)), []int{0, 2, 1}, []int{0, 2, 1})
}

// TestP1501P1502Clocks: all edges of a clock count, not the last one alone.
func TestP1501P1502Clocks(t *testing.T) {
	c := program("b.bool", "", "d.bool e.bool.d f.bool.d.!e l.i8.d.!e.f", def("l", lit(api.I8, 3)), def("f", lit(api.Bool, 1)), def("e", when(ref("b"), "d", 1)), def("d", ref("b")))
	tells(t, c, []int{3, 2, 1, 0}, []int{3, 2, 1, 0})
	if got := hangs(c, 0); !slices.Equal(got, []int{1, 2, 3}) {
		t.Error(got)
	}
}

// TestP1501P1502Made: made programs, as they are and taken apart.
func TestP1501P1502Made(t *testing.T) {
	high := map[int]int{}
	for seed := range 6000 {
		c := newMaker(seed).program()
		holds(t, c)
		high[slices.Max(append(wantLevels(web(c)), 0))]++
		if n, e := normal.Make(c); e == api.OK && seed%4 == 0 {
			holds(t, n)
		}
	}
	for level := range 5 {
		if high[level] < 30 {
			t.Errorf("%d: %d times", level, high[level])
		}
	}
}

// TestP1501P1502Text: programs of texts, made flat.
func TestP1501P1502Text(t *testing.T) {
	text := "node sum(a: i8) returns (s: i8) let s = a + (0i8 -> pre s); tel node f(x: i8; c: bool) returns (y: i8; z: bool) var k: i8 when c; let k = sum(when(x * x - 3i8, c)); z = tick(4, 1); automaton state A do y = merge(c, k, when(0i8 -> pre (y + 1i8), not c)); until y > 5i8 and c then B; state B do y = reset(sum(-x), z); until x < 0i8 continue A; end tel"
	p, at, e := gram.Parse(text)
	if e != api.OK {
		t.Fatalf("error %d at %d", e, at)
	}
	c, e := flat.Make(p, "f")
	if e != api.OK {
		t.Fatalf("error %d", e)
	}
	holds(t, c)
}

func names(count int) (list []string) {
	for i := range count {
		list = append(list, "l"+strconv.Itoa(i))
	}
	return list
}

// TestP1501P1502Long: the longest ways, forth and back.
func TestP1501P1502Long(t *testing.T) {
	for _, back := range []bool{false, true} {
		var c api.Core
		var order, levels []int
		all := names(api.MaxEqs)
		for i, name := range all {
			c.Locals = append(c.Locals, api.CVar{Name: name, Kind: api.I8})
			at, on := i, i-1
			if back {
				at, on = len(all)-1-i, i+1
			}
			order, levels = append(order, at), append(levels, at)
			e := lit(api.I8, 1)
			if on >= 0 && on < len(all) {
				e = ref(all[on])
			}
			c.Eqs = append(c.Eqs, def(name, e))
		}
		tells(t, c, order, levels)
	}
}

// TestP1501P1502Heavy: as many equations as there can be, each on the longest clock or naming as much as it can.
func TestP1501P1502Heavy(t *testing.T) {
	c := program("b.bool", "", "")
	all := names(400)
	clock := []api.Edge{}
	for _, name := range all {
		c.Locals = append(c.Locals, api.CVar{Name: name, Kind: api.Bool, Clock: slices.Clone(clock)})
		c.Eqs = append(c.Eqs, def(name, lit(api.Bool, 1)))
		clock = append(clock, api.Edge{Name: name})
	}
	for i := range 400 {
		name := "m" + strconv.Itoa(i)
		c.Locals = append(c.Locals, api.CVar{Name: name, Kind: api.I8, Clock: clock})
		c.Eqs = append(c.Eqs, mem(name, 0, name, ""))
	}
	slices.Reverse(c.Eqs)
	holds(t, c)
	c = program("x.i8", "", "")
	for i := range 1000 {
		name := "w" + strconv.Itoa(i)
		c.Locals = append(c.Locals, api.CVar{Name: name, Kind: api.I8})
		c.Eqs = append(c.Eqs, def(name, wide(i, 9)))
	}
	if e := core.Check(c); e != api.OK {
		t.Fatalf("error %d", e)
	}
	if order, e := sched.Order(c); e != api.OK || len(order) != 1000 || !slices.IsSorted(order) {
		t.Errorf("error %d, %v", e, order)
	}
}

// wide names the variables ahead of one again and again.
func wide(ahead, deep int) api.CExp {
	if deep == 0 && ahead == 0 {
		return ref("x")
	}
	if deep == 0 {
		return ref("w" + strconv.Itoa(ahead-1))
	}
	return bin(api.OpAdd, wide(ahead, deep-1), wide(max(0, ahead-deep*17), deep-1))
}

func TestP1501P1502Refused(t *testing.T) {
	wrong := []api.Core{program("x.i8", "y.i8", ""), program("x.i8 b.bool", "y.i8", "", def("y", ref("b"))), program("x.i8", "y.i8", "", def("y", ref("y"))), program("x.i8", "y.i8 z.i8", "", def("y", ref("z")), def("z", ref("y"))), program("x.i8", "y.i8", "", def("y", ref("nobody"))), program("x.i8", "y.i8", "", def("x", ref("x"))), program("x.i8", "y.i8", "", def("y", ref("x")), def("y", ref("x"))), program("x.i8 b.bool", "y.i8", "", def("y", when(ref("x"), "b", 1))), program("x.i8", "y.i8", "", mem("y", 0, "nobody", "")), program("x.i8", "y.i8", "", mem("y", 0, "x", "nobody")), program("x.i8", "y.bool", "", mem("y", 0, "y", "y")), program("x.i8", "y.bool", "", tick("y", 0, 0)), {Eqs: make([]api.CEq, api.MaxEqs+1)}, {Ins: make([]api.CVar, api.MaxEqs+1)}, {Eqs: []api.CEq{{}}}, {Eqs: []api.CEq{{Form: -1, E: api.CExp{Form: 1 << 40}}}}}
	kids := make([]api.CExp, 1) // an expression that is within itself
	kids[0] = api.CExp{Form: api.EUn, Sub: api.OpNeg, Kids: kids}
	for i, c := range append(wrong, program("x.i8", "y.i8", "", def("y", kids[0]))) {
		if list, e := sched.Order(c); e != api.ErrForm || len(list) > 0 {
			t.Errorf("%d: error %d, %v", i, e, list)
		}
		if list, e := sched.Levels(c); e != api.ErrForm || len(list) > 0 {
			t.Errorf("%d: error %d, %v", i, e, list)
		}
	}
	for _, c := range []api.Core{{}, program("x.i8", "", "")} {
		tells(t, c, nil, nil)
	}
}

// TestP1501P1502Wrong: of programs that were spoilt an order is told, or ErrForm, as core.Check says.
func TestP1501P1502Wrong(t *testing.T) {
	right := 0
	for seed := range 20000 {
		m := newMaker(seed)
		c := m.program()
		for range 1 + m.r.Intn(3) {
			spoil(m.r, reflect.ValueOf(&c).Elem())
		}
		if core.Check(c) == api.OK {
			right++
			holds(t, c)
			continue
		}
		order, e := sched.Order(c)
		levels, f := sched.Levels(c)
		if e != api.ErrForm || f != api.ErrForm || len(order)+len(levels) > 0 {
			t.Fatalf("%+v\nerrors %d, %d, %v, %v", c, e, f, order, levels)
		}
	}
	if right < 1000 || right > 19000 {
		t.Error(right)
	}
}
