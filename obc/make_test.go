package obc_test

import (
	"reflect"
	"slices"
	"strconv"
	"strings"
	"testing"

	"metronome/api"
	"metronome/core"
	"metronome/flat"
	"metronome/gram"
	"metronome/normal"
	"metronome/obc"
)

func def(name string, e api.CExp) api.CEq { return api.CEq{Form: api.CDef, Name: name, E: e} }

func mem(name string, init int, next, reset string) api.CEq {
	return api.CEq{Form: api.CMem, Name: name, Init: init, Next: next, Reset: reset}
}

func tick(name string, period, offset int) api.CEq {
	return api.CEq{Form: api.CTick, Name: name, Period: period, Offset: offset}
}

func program(ins, outs, locals string, eqs ...api.CEq) api.Core {
	return api.Core{Ins: vars(ins), Outs: vars(outs), Locals: vars(locals), Eqs: eqs}
}

func sameVars(a, b []api.CVar) bool {
	return slices.EqualFunc(a, b, func(v, w api.CVar) bool {
		return v.Name == w.Name && v.Kind == w.Kind && slices.Equal(v.Clock, w.Clock)
	})
}

// hasCells tells whether each memory has a cell of its kind that begins as it does.
func hasCells(c api.Core, s api.Step) bool {
	left := slices.Clone(s.Cells)
	all := slices.Concat(c.Outs, c.Locals)
	for _, q := range c.Eqs {
		if q.Form != api.CMem {
			continue
		}
		v := all[slices.IndexFunc(all, func(v api.CVar) bool { return v.Name == q.Name })]
		at := slices.IndexFunc(left, func(c api.Cell) bool { return c.Kind == v.Kind && c.Init == q.Init })
		if at < 0 {
			return false
		}
		left = slices.Delete(left, at, at+1)
	}
	return true
}

// isBare tells whether nothing stands where a form has nothing.
func isBare(s api.Step) bool {
	for _, v := range slices.Concat(s.Ins, s.Outs, s.Vars) {
		if len(v.Clock) > 0 {
			return false
		}
	}
	o := newOracle(s)
	for _, one := range o.all {
		if one.Form == api.SIf && one.Name != "" || one.Form != api.SIf && len(one.Then)+len(one.Else) > 0 {
			return false
		}
	}
	for _, e := range o.exps {
		if e.Form != api.EVar && e.Name != "" || e.Form != api.EUn && e.Form != api.EBin && e.Sub != 0 || e.Form != api.ELit && e.N != 0 || e.Form != api.ELit && e.Form != api.ECast && e.Kind != 0 {
			return false
		}
	}
	return true
}

// made is what Make answers; it is held to all that can be seen of it without a run.
func made(t *testing.T, c api.Core) api.Step {
	t.Helper()
	s, e := obc.Make(c)
	if e != api.OK {
		t.Fatalf("%.2000v\nerror %d", c, e)
	}
	if e := obc.Check(s); e != api.OK {
		t.Fatalf("%.2000v\n%.2000v: error %d", c, s, e)
	}
	if !sameVars(s.Ins, c.Ins) || !sameVars(s.Outs, c.Outs) || !hasCells(c, s) || !isBare(s) {
		t.Fatalf("%.2000v\n%.2000v", c, s)
	}
	return s
}

// means holds what Make answers to what the program means.
func means(t *testing.T, c api.Core, ins [][]int) api.Step {
	t.Helper()
	s := made(t, c)
	want, e := core.Run(c, ins)
	if e != api.OK {
		t.Fatalf("%.2000v\nerror %d", c, e)
	}
	if got, e := obc.Run(s, ins); e != api.OK || !same(got, want) {
		t.Fatalf("%+.5000v\n%+.5000v\nof %v: error %d, %v, not %v", c, s, ins, e, got, want)
	}
	return s
}

func TestP1703Example(t *testing.T) {
	c := program("x.i8", "y.i8", "m.i8", def("y", bin(api.OpAdd, ref("m"), ref("x"))), mem("m", 0, "y", ""))
	want := step("x.i8", "y.i8", "", "m.i8.0", set("y", bin(api.OpAdd, ref("m"), ref("x"))), store("m", ref("y")))
	if s := made(t, c); !reflect.DeepEqual(s, want) {
		t.Errorf("%+v, not %+v", s, want)
	}
	tells(t, made(t, c), "1 2 3 > 1 3 6")
	c.Ins, c.Eqs[1].Reset = append(c.Ins, vars("r.bool")...), "r"
	tells(t, made(t, c), "1,0 2,1 3,0 > 1 2 5")
}

// turns has rows of programs in which something may go wrong by the order in which things are done.
func turns() []api.Core {
	x, b, d := ref("x"), ref("b"), ref("d")
	one, yes := lit(api.I8, 1), lit(api.Bool, 1)
	inc := func(name string) api.CExp { return bin(api.OpAdd, ref(name), one) }
	of := func(outs, locals string, eqs ...api.CEq) api.Core {
		return program("x.i8 b.bool d.bool", outs, locals, eqs...)
	}
	return []api.Core{
		// memories of memories, of themselves, of each other
		of("y.i8 z.i8", "", mem("y", 1, "z", ""), mem("z", 2, "y", "")), of("y.i8", "a.i8 c.i8 e.i8", mem("a", 1, "x", ""), mem("c", 2, "a", ""), mem("e", 3, "c", ""), def("y", ref("e"))), of("y.i8", "a.i8 c.i8 e.i8", mem("e", 3, "c", ""), mem("c", 2, "a", ""), mem("a", 1, "x", ""), def("y", ref("e"))), of("y.i8 z.i8", "a.i8 c.i8", mem("a", 1, "c", ""), mem("c", 2, "a", ""), def("y", ref("a")), def("z", ref("c"))), of("y.i8", "a.i8", mem("a", 4, "a", ""), def("y", inc("a"))), of("y.i8", "", mem("y", 4, "y", "b")), of("y.i8 z.i8", "m.i8", mem("m", 0, "x", ""), mem("y", 1, "m", "b"), mem("z", 2, "m", "d")), of("y.i8", "m.i8 n.i8", mem("m", 0, "n", "b"), def("n", inc("m")), mem("y", 9, "m", "d")),
		// resets
		of("y.i8", "m.i8", mem("m", 5, "x", "b"), def("y", ref("m"))), of("y.i8", "", mem("y", 5, "x", "b")), of("y.i8", "m.i8 r.bool", def("y", ref("m")), mem("m", 5, "y2", "r"), def("r", bin(api.OpXor, b, d)), def("y2", inc("m"))), of("y.i8", "m.i8 r.bool q.bool", mem("m", 5, "x", "r"), mem("r", 1, "q", "d"), mem("q", 0, "b", ""), def("y", ref("m"))), of("y.bool", "r.bool s.bool", mem("r", 1, "b", "s"), mem("s", 0, "r", ""), def("y", ref("r"))),
		// memories by which clocks go
		of("y.i8", "c.bool z.i8.c n.i8.c k.bool", mem("c", 0, "k", ""), def("k", un(api.OpNot, ref("c"))), mem("z", 1, "n", ""), def("n", inc("z")), def("y", merge("c", ref("z"), lit(api.I8, 100)))), of("y.i8", "z.i8.c n.i8.c c.bool k.bool", mem("z", 1, "n", ""), def("n", inc("z")), mem("c", 0, "k", ""), def("k", un(api.OpNot, ref("c"))), def("y", merge("c", ref("z"), lit(api.I8, 100)))), of("y.i8", "c.bool z.i8.!c n.i8.!c", mem("c", 1, "b", "d"), mem("z", 1, "n", ""), def("n", inc("z")), def("y", merge("c", lit(api.I8, 100), ref("z")))), of("y.i8", "c.bool.b k.bool.b z.i8.b.c n.i8.b.c w.i8.b", mem("c", 1, "k", ""), def("k", un(api.OpNot, ref("c"))), mem("z", 1, "n", ""), def("n", inc("z")), def("w", merge("c", ref("z"), lit(api.I8, 50))), def("y", merge("b", ref("w"), lit(api.I8, 100)))), of("y.i8", "c.bool.b k.bool.b z.i8.b.!c n.i8.b.!c w.i8.b", mem("c", 1, "k", ""), def("k", un(api.OpNot, ref("c"))), mem("z", 1, "n", ""), def("n", inc("z")), def("w", merge("c", lit(api.I8, 50), ref("z"))), def("y", merge("b", ref("w"), lit(api.I8, 100)))), of("y.bool", "z.bool.y w.bool.!y", mem("y", 0, "b", ""), mem("z", 1, "z", ""), mem("w", 1, "w", "")), of("y.bool o.i8", "z.i8.y n.i8.y", mem("y", 0, "b", ""), mem("z", 1, "n", ""), def("n", inc("z")), def("o", merge("y", ref("z"), one))),
		// clocks within clocks, each way
		of("y.i8", "c.bool.!b e.bool.!b.!c z.i8.!b.!c.!e n.i8.!b.!c.!e w.i8.!b.!c v.i8.!b r.bool.!b.!c.!e", def("c", when(d, "b", 0)), def("e", when(when(bin(api.OpLt, x, one), "b", 0), "c", 0)), def("r", when(when(when(bin(api.OpEq, x, lit(api.I8, 2)), "b", 0), "c", 0), "e", 0)), mem("z", 1, "n", "r"), def("n", inc("z")), def("w", merge("e", lit(api.I8, 30), ref("z"))), def("v", merge("c", lit(api.I8, 20), ref("w"))), def("y", merge("b", lit(api.I8, 10), ref("v")))), of("y.i8", "c.bool.b e.bool.b.!c z.i8.b.!c.e n.i8.b.!c.e w.i8.b.!c v.i8.b", def("c", when(d, "b", 1)), def("e", when(when(bin(api.OpLt, x, one), "b", 1), "c", 0)), mem("z", 1, "n", ""), def("n", inc("z")), def("w", merge("e", ref("z"), lit(api.I8, 30))), def("v", merge("c", lit(api.I8, 20), ref("w"))), def("y", merge("b", ref("v"), lit(api.I8, 10)))), of("y.i8", "c.bool.!b z.i8.!b.c n.i8.!b.c v.i8.!b", def("c", when(d, "b", 0)), mem("z", 1, "n", ""), def("n", inc("z")), def("v", merge("c", ref("z"), lit(api.I8, 20))), def("y", merge("b", lit(api.I8, 10), ref("v")))),
		// ticks
		of("y.bool z.bool w.bool v.bool u.bool", "", tick("y", 3, 0), tick("z", 3, 2), tick("w", 1, 0), tick("v", 64, 63), tick("u", 2, 1)), of("y.i8", "t.bool z.i8.t n.i8.t o.i8.!t", tick("t", 3, 1), mem("z", 1, "n", ""), def("n", bin(api.OpAdd, ref("z"), when(x, "t", 1))), def("o", when(x, "t", 0)), def("y", merge("t", ref("z"), ref("o")))),
		// merges by what is not there at all times, of literals, of memories
		of("y.i8", "", def("y", merge("b", one, lit(api.I8, 2)))), of("y.bool", "", def("y", merge("b", when(b, "b", 1), when(un(api.OpNot, d), "b", 0)))), of("y.i8", "c.bool.b", def("c", when(d, "b", 1)), def("y", merge("b", merge("c", one, lit(api.I8, 2)), un(api.OpNeg, when(x, "b", 0))))), of("y.i8", "m.bool", mem("m", 0, "b", "d"), def("y", bin(api.OpAdd, x, merge("m", one, lit(api.I8, 2))))), of("y.i8", "m.bool", mem("m", 0, "m", ""), def("y", merge("m", when(x, "m", 1), one))),
		of("y.bool", "", def("y", bin(api.OpEq, merge("d", yes, when(b, "d", 0)), choose(b, d, yes)))), of("y.u16", "", def("y", cast(api.U16, bin(api.OpMul, x, x)))),
		{}, of("", ""),
	}
}

func TestP1703Turns(t *testing.T) {
	for i, c := range turns() {
		for seed := range 5 {
			m := newMaker(i*10 + seed)
			c := whole(reflect.ValueOf(c), false).Interface().(api.Core)
			if slices.ContainsFunc(c.Eqs, func(q api.CEq) bool { return q.Next == "y2" }) {
				c.Locals = append(c.Locals, vars("y2.i8")...)
			}
			means(t, c, m.ticks(c, 150))
			m.r.Shuffle(len(c.Eqs), func(i, j int) { c.Eqs[i], c.Eqs[j] = c.Eqs[j], c.Eqs[i] })
			m.r.Shuffle(len(c.Locals), func(i, j int) { c.Locals[i], c.Locals[j] = c.Locals[j], c.Locals[i] })
			means(t, c, m.ticks(c, 150))
		}
	}
}

// TestP1703Made: made programs, as they are and taken apart.
func TestP1703Made(t *testing.T) {
	shown := map[string]int{}
	for seed := range 10000 {
		m := newMaker(seed)
		c := m.program()
		ins := m.ticks(c, 12)
		means(t, c, ins)
		if n, e := normal.Make(c); e == api.OK && seed%3 == 0 {
			means(t, n, ins)
		}
		for _, q := range c.Eqs {
			all := slices.Concat(c.Outs, c.Locals)
			v := all[slices.IndexFunc(all, func(v api.CVar) bool { return v.Name == q.Name })]
			what := strconv.Itoa(q.Form)
			if q.Reset != "" {
				what += "r"
			}
			for _, e := range v.Clock {
				what += map[bool]string{true: "+", false: "-"}[e.On]
			}
			shown[what]++
		}
	}
	for _, form := range []string{"1", "2", "2r"} {
		for _, clock := range []string{"", "+", "-", "++", "+-", "-+", "--", "---", "--+", "-+-", "+--"} {
			if shown[form+clock] < 3 && len(form+clock) < 5 {
				t.Errorf("%s: %d times", form+clock, shown[form+clock])
			}
		}
	}
}

func texts() []string {
	const sum = "node sum(a: i8) returns (s: i8) let s = a + (0i8 -> pre s); tel "
	return []string{
		"node f(x: i8; c: bool) returns (y: i8) let y = 0i8 -> pre y + x; tel", "node count() returns (n: u8) let n = 0u8 fby (n + 1u8); tel node f(x: i8; r: bool) returns (y: u8) let y = reset(count(), r); tel",
		"node f(x: i8; c: bool) returns (y: i8) let automaton state A do y = 0i8 fby (y + 1i8); until y = 2i8 then B; state B do y = -1i8; until true continue A; end tel",
		sum + "node f(x: i8; c: bool) returns (y: i8) var fast: bool; z: i8 when fast; let fast = tick(2, 0); z = sum(when(x, fast)); y = merge(fast, z, when(0i8 -> pre y, not fast)); tel",
		sum + "node f(x: i8; c: bool) returns (y: i8; z: bool) var k: i8 when c; let k = sum(when(x * x - 3i8, c)); z = tick(4, 1); automaton state A do y = merge(c, k, when(0i8 -> pre (y + 1i8), not c)); until y > 5i8 and c then B; state B do y = reset(sum(-x), z); until x < 0i8 continue A; end tel",
		"node f(x: i8; c: bool) returns (y: i8^3; z: i8) let y = [x, 0i8 fby x, 7i8]; z = y[0] + y[1]; tel",
	}
}

// TestP1703Text: programs of texts, made flat.
func TestP1703Text(t *testing.T) {
	for i, text := range texts() {
		p, at, e := gram.Parse(text)
		if e != api.OK {
			t.Fatalf("%s: error %d at %d", text, e, at)
		}
		c, e := flat.Make(p, "f")
		if e != api.OK {
			t.Fatalf("%s: error %d", text, e)
		}
		means(t, c, newMaker(i).ticks(c, 200))
		n, e := normal.Make(c)
		if e != api.OK {
			t.Fatalf("%s: error %d", text, e)
		}
		means(t, n, newMaker(i).ticks(c, 200))
	}
}

// TestP1703Together: what is on one clock stands together, as far as it can; one condition has both ways.
func TestP1703Together(t *testing.T) {
	x, one := ref("x"), lit(api.I8, 1)
	c := program("x.i8 b.bool", "y.i8", "p.i8.b q.i8 r.i8.!b s.i8.b u.i8 m.i8.b", def("p", when(x, "b", 1)), def("q", bin(api.OpAdd, x, one)), def("r", when(x, "b", 0)), def("s", bin(api.OpAdd, ref("p"), ref("m"))), mem("m", 0, "s", ""), def("u", bin(api.OpAdd, ref("q"), one)), def("y", bin(api.OpAdd, ref("u"), merge("b", ref("s"), ref("r")))))
	s := means(t, c, newMaker(1).ticks(c, 50))
	forks := slices.DeleteFunc(newOracle(s).all, func(s api.Stmt) bool { return s.Form != api.SIf })
	if len(forks) != 2 || len(s.Body) > 7 { // of what is done, of what is stored
		t.Errorf("%+v", s.Body)
	}
}

// TestP1703Names: new names are no names of the program, whichever it has.
func TestP1703Names(t *testing.T) {
	var taken []string
	for range 6 {
		c := program("x.i8 b.bool", "y.i8 o.bool", "c.bool.b z.i8.b.!c n.i8.b.!c", mem("y", 1, "x", ""), mem("o", 1, "b", ""), def("c", when(ref("b"), "b", 1)), mem("z", 1, "n", ""), def("n", ref("z")))
		c.Outs, c.Eqs = append(c.Outs, vars("s.bool r.bool")...), append(c.Eqs, tick("s", 5, 2), tick("r", 4, 2))
		for i, name := range taken {
			v := api.CVar{Name: name, Kind: api.I8}
			switch i % 3 {
			case 0:
				c.Ins = append(c.Ins, v)
				continue
			case 1:
				c.Outs = append(c.Outs, v)
			case 2:
				c.Locals = append(c.Locals, v)
			}
			c.Eqs = append(c.Eqs, mem(name, 7, "x", "b"))
		}
		s := means(t, c, newMaker(1).ticks(c, 30))
		for _, v := range s.Vars {
			if !isOf(c.Locals, v.Name) {
				taken = append(taken, v.Name)
			}
		}
		for _, cell := range s.Cells {
			if !isOf(c.Locals, cell.Name) {
				taken = append(taken, cell.Name)
			}
		}
	}
	if len(taken) < 25 {
		t.Error(taken)
	}
}

// TestP1703Empty: an empty text is a name, too, but no Reset.
func TestP1703Empty(t *testing.T) {
	text := func(c api.Core) api.Core { // * stands for it
		v := reflect.ValueOf(&c).Elem()
		var walk func(reflect.Value)
		walk = func(v reflect.Value) {
			switch v.Kind() {
			case reflect.Struct:
				for i := range v.NumField() {
					walk(v.Field(i))
				}
			case reflect.Slice:
				for i := range v.Len() {
					walk(v.Index(i))
				}
			case reflect.String:
				v.SetString(strings.TrimSuffix(v.String(), "*"))
			}
		}
		walk(v)
		return c
	}
	x := ref("x")
	for i, c := range []api.Core{
		program("x.i8", "*.bool", "", mem("*", 1, "*", "")), program("x.i8", "", "*.i8 z.i8", mem("*", 1, "x", ""), mem("z", 1, "x", "")), program("x.i8 *.bool", "y.i8", "z.i8.*", def("z", when(x, "*", 1)), def("y", merge("*", ref("z"), lit(api.I8, 3)))), program("x.i8 *.bool", "y.i8", "z.i8.!*", mem("z", 4, "z", ""), def("y", merge("*", lit(api.I8, 3), ref("z")))), program("x.i8 b.bool", "y.i8", "*.bool.b z.i8.b.!* n.i8.b.!* w.i8.b", def("*", when(bin(api.OpLt, x, lit(api.I8, 1)), "b", 1)), mem("z", 1, "n", ""), def("n", bin(api.OpAdd, ref("z"), lit(api.I8, 1))), def("w", merge("*", lit(api.I8, 50), ref("z"))), def("y", merge("b", ref("w"), lit(api.I8, 100)))),
		program("*.bool", "y.i8", "z.i8.* n.i8.* v.i8.!* w.i8.!*", mem("z", 1, "n", ""), def("n", bin(api.OpAdd, ref("z"), lit(api.I8, 1))), mem("v", 50, "w", ""), def("w", bin(api.OpAdd, ref("v"), lit(api.I8, 1))), def("y", merge("*", ref("z"), ref("v")))),
		program("x.i8", "y.i8", "*.bool m.i8", def("*", lit(api.Bool, 1)), mem("m", 3, "x", ""), def("y", ref("m"))), program("", "*.i8", "m.i8", mem("m", 3, "*", ""), mem("*", 4, "m", "")),
	} {
		c = text(c)
		means(t, c, newMaker(i).ticks(c, 40))
	}
}

// tower has Bools each of which is on the clock of those ahead of it, behind them memories on the longest clock, and the way back to the base, as far as there is room for it.
func tower(high, more int, on func(int) bool, reset bool) api.Core {
	c := program("b.bool x.i8", "y.bool", "")
	clock := []api.Edge{{Name: "b", On: on(0)}}
	add := func(q api.CEq, clock []api.Edge) {
		c.Locals = append(c.Locals, api.CVar{Name: q.Name, Kind: api.Bool, Clock: slices.Clone(clock)})
		c.Eqs = append(c.Eqs, q)
	}
	for i := range high {
		name, n := "c"+strconv.Itoa(i), 0
		if on(i + 1) {
			n = 1
		}
		if i%3 == 1 {
			add(mem(name, n, name, ""), clock)
		} else {
			add(def(name, lit(api.Bool, n)), clock)
		}
		clock = append(clock, api.Edge{Name: name, On: on(i + 1)})
	}
	for i := range more {
		q := mem("m"+strconv.Itoa(i), i%2, "m"+strconv.Itoa((i+1)%more), "")
		if reset && i > 0 {
			q.Reset = "m" + strconv.Itoa(i-1)
		}
		add(q, clock)
	}
	e := ref("m0")
	for i := high; i >= 0; i-- {
		if high > 900 {
			e = lit(api.Bool, 0)
		}
		kids := []api.CExp{e, lit(api.Bool, 1)}
		if !clock[i].On {
			slices.Reverse(kids)
		}
		e = merge(clock[i].Name, kids[0], kids[1])
		if i == 0 {
			c.Eqs = append(c.Eqs, def("y", e))
		} else if high <= 900 {
			add(def("d"+strconv.Itoa(i), e), clock[:i])
			e = ref("d" + strconv.Itoa(i))
		}
	}
	return c
}

// TestP1703High: clocks as long as may be, which no statements within others could follow.
func TestP1703High(t *testing.T) {
	for i, on := range []func(int) bool{func(int) bool { return true }, func(int) bool { return false }, func(i int) bool { return i%2 == 0 }, func(i int) bool { return i%7 < 3 }} {
		for _, r := range [][2]int{{9, 3}, {200, 20}, {900, 90}, {1990, 6}, {1000, 990}} {
			if r[0] > 900 && i%2 == 0 {
				continue
			}
			c := tower(r[0], r[1], on, i%3 == 0)
			if r[0] == 200 {
				means(t, c, newMaker(i).ticks(c, 30))
			}
			slices.Reverse(c.Eqs)
			means(t, c, newMaker(i).ticks(c, 30))
		}
	}
	outs, e := core.Run(tower(900, 90, func(int) bool { return false }, false), [][]int{{0, 0}, {0, 0}, {1, 0}, {0, 0}})
	if e != api.OK || !same(outs, [][]int{{0}, {1}, {1}, {0}}) { // the memories are seen
		t.Errorf("error %d, %v", e, outs)
	}
}

// TestP1703Enough: as much as the chapter names, and more, is never too long.
func TestP1703Enough(t *testing.T) {
	m := newMaker(7)
	for _, count := range []int{300, 1900} {
		var c api.Core
		c.Ins = numbered("x", 3)
		c.Ins[0].Kind = api.Bool
		var clocks [][]api.Edge
		for i := range 10 { // a row of Bools, each on the clock of those ahead, on their other side, too
			clocks = append(clocks, nil)
			for k := range i + 1 {
				name := "x0"
				if k > 0 {
					name = "c" + strconv.Itoa(k-1)
				}
				clocks[i] = append(clocks[i], api.Edge{Name: name, On: k < i || i%2 == 0})
			}
			if i < 9 {
				clock := slices.Clone(clocks[i])
				clock[i].On = true
				c.Locals = append(c.Locals, api.CVar{Name: "c" + strconv.Itoa(i), Kind: api.Bool, Clock: clock})
				c.Eqs = append(c.Eqs, def("c"+strconv.Itoa(i), un(api.OpNot, lit(api.Bool, m.r.Intn(2)))))
			}
		}
		for i := len(c.Eqs); i < count; i++ {
			name := "l" + strconv.Itoa(i)
			v := api.CVar{Name: name, Kind: api.I8, Clock: clocks[i%10]}
			q := def(name, wideOf(29, "l"+strconv.Itoa(i-10), i < 20))
			if i%3 == 0 {
				q = mem(name, i%100, name, "")
				if i >= 20 {
					q.Next = "l" + strconv.Itoa(i-10)
				}
			}
			c.Locals, c.Eqs = append(c.Locals, v), append(c.Eqs, q)
		}
		if e := core.Check(c); e != api.OK {
			t.Fatalf("error %d", e)
		}
		means(t, c, m.ticks(c, 20))
		m.r.Shuffle(len(c.Eqs), func(i, j int) { c.Eqs[i], c.Eqs[j] = c.Eqs[j], c.Eqs[i] })
		means(t, c, m.ticks(c, 20))
	}
}

// wideOf is an expression of an odd number of parts that names a variable, or has literals alone.
func wideOf(parts int, name string, none bool) api.CExp {
	if parts < 3 && none {
		return lit(api.I8, 3)
	}
	if parts < 3 {
		return ref(name)
	}
	half := (parts - 1) / 2
	half -= 1 - half%2
	return bin(api.OpSub, wideOf(half, name, none), wideOf(parts-1-half, name, none))
}

// forest makes expressions of EMerges: each goes by a Bool of its own, which is on the clock of its place.
type forest struct {
	api.Core
	count int
}

func (f *forest) tree(kind, merges int, clock []api.Edge) api.CExp {
	f.count++
	if merges == 0 {
		return lit(kind, f.count*37%2)
	}
	name := "b" + strconv.Itoa(f.count)
	f.Locals = append(f.Locals, api.CVar{Name: name, Kind: api.Bool, Clock: clock})
	e := api.CExp{Form: api.EVar, Name: "b"}
	if f.count%3 == 0 {
		e = un(api.OpNot, e)
	}
	for i, edge := range clock {
		n := 0
		if edge.On {
			n = 1
		}
		e = when(e, edge.Name, n)
		if i%2 == 0 {
			e = un(api.OpNot, e)
		}
	}
	f.Eqs = append(f.Eqs, def(name, e))
	half := (merges - 1) / 2
	yes := append(slices.Clone(clock), api.Edge{Name: name, On: true})
	no := append(slices.Clone(clock), api.Edge{Name: name})
	return merge(name, f.tree(kind, half, yes), f.tree(kind, merges-1-half, no))
}

// TestP1703Merges: expressions that have too many parts, once what they are merged by is a part of them.
func TestP1703Merges(t *testing.T) {
	of := func(make func(f *forest) api.CExp, held int) {
		t.Helper()
		f := &forest{Core: program("x.i8 b.bool", "y.i8", "")}
		f.Eqs = append(f.Eqs, def("y", make(f)))
		if f.Eqs[len(f.Eqs)-1].Name != "y" || core.Check(f.Core) != api.OK {
			t.Fatalf("error %d", core.Check(f.Core))
		}
		s := means(t, f.Core, newMaker(held).ticks(f.Core, 30))
		own := 0
		for _, v := range s.Vars {
			if !isOf(f.Locals, v.Name) && v.Kind != api.Bool {
				own++
			}
		}
		if own != held {
			t.Errorf("%d are held, not %d", own, held)
		}
	}
	i8 := func(f *forest, merges int) api.CExp { return f.tree(api.I8, merges, nil) }
	sum := func(f *forest, a, b int) api.CExp { return bin(api.OpAdd, i8(f, a), i8(f, b)) }
	of(func(f *forest) api.CExp { return i8(f, 1) }, 0)
	of(func(f *forest) api.CExp { return un(api.OpNeg, i8(f, 666)) }, 0) // 3 * 666 + 2 parts
	of(func(f *forest) api.CExp { return un(api.OpNeg, un(api.OpNeg, i8(f, 666))) }, 1)
	of(func(f *forest) api.CExp { return un(api.OpNot, i8(f, 999)) }, 1)
	of(func(f *forest) api.CExp { return sum(f, 333, 332) }, 0)
	of(func(f *forest) api.CExp { return sum(f, 333, 333) }, 1)
	of(func(f *forest) api.CExp { return sum(f, 10, 900) }, 1)
	of(func(f *forest) api.CExp { return sum(f, 900, 10) }, 1)
	of(func(f *forest) api.CExp { return bin(api.OpSub, ref("x"), sum(f, 498, 498)) }, 1)
	of(func(f *forest) api.CExp {
		e := choose(bin(api.OpLt, i8(f, 220), ref("x")), i8(f, 222), i8(f, 223)) // 2,001 parts, the last one 670 of them
		return bin(api.OpAdd, i8(f, 300), e)
	}, 2)
	of(func(f *forest) api.CExp { return choose(bin(api.OpLt, i8(f, 990), ref("x")), ref("x"), i8(f, 1)) }, 1)
}

// TestP1703Clocked: such expressions on clocks, held behind the same gate.
func TestP1703Clocked(t *testing.T) {
	for _, on := range []bool{true, false} {
		f := &forest{Core: program("x.i8 b.bool d.bool", "y.i8", "")}
		clock := []api.Edge{{Name: "b", On: !on}, {Name: "k", On: on}}
		f.Locals = append(f.Locals, api.CVar{Name: "k", Kind: api.Bool, Clock: clock[:1]}, api.CVar{Name: "l", Kind: api.I8, Clock: clock}, api.CVar{Name: "m", Kind: api.I8, Clock: clock}, api.CVar{Name: "n", Kind: api.I8, Clock: clock[:1]})
		n := 1
		if on {
			n = 0
		}
		f.Eqs = append(f.Eqs, def("k", when(ref("d"), "b", n)), mem("m", 3, "l", ""))
		f.Eqs = append(f.Eqs, def("l", bin(api.OpAdd, ref("m"), choose(bin(api.OpLt, f.tree(api.I8, 300, clock), ref("m")), f.tree(api.I8, 300, clock), f.tree(api.I8, 300, clock)))))
		e, back := merge("k", ref("l"), lit(api.I8, 50)), merge("b", lit(api.I8, 60), ref("n"))
		if !on {
			e, back = merge("k", lit(api.I8, 50), ref("l")), merge("b", ref("n"), lit(api.I8, 60))
		}
		f.Eqs = append(f.Eqs, def("n", e), def("y", back))
		for _, of := range []int{0, 1} { // what the places' Bools are of is on the base: when goes all the way
			if core.Check(f.Core) != api.OK {
				t.Fatalf("error %d", core.Check(f.Core))
			}
			means(t, f.Core, newMaker(of).ticks(f.Core, 60))
			slices.Reverse(f.Eqs)
		}
	}
}

func TestP1703Refused(t *testing.T) {
	wrong := []api.Core{program("x.i8", "y.i8", ""), program("x.i8 b.bool", "y.i8", "", def("y", ref("b"))), program("x.i8", "y.i8", "", def("y", ref("y"))), program("x.i8", "y.i8", "", def("y", ref("nobody"))), program("x.i8 b.bool", "y.i8", "", def("y", when(ref("x"), "b", 1))), program("x.i8", "y.i8", "", def("y", api.CExp{Form: api.EPre, Kids: []api.CExp{ref("x")}})), program("x.i8", "y.i8", "", def("y", chain(401))), program("x.i8", "y.i8", "", mem("y", 200, "y", "")), program("x.i8", "y.bool", "", tick("y", 0, 0)), program("x.i8", "y.i8", "", def("y", ref("x")), def("y", ref("x"))), {Eqs: make([]api.CEq, api.MaxEqs+1)}, {Ins: make([]api.CVar, api.MaxEqs+1)}, {Eqs: []api.CEq{{}}}, {Eqs: []api.CEq{{Form: -1, E: api.CExp{Form: 1 << 40}}}}}
	for i, c := range wrong {
		if s, e := obc.Make(c); e != api.ErrForm || !reflect.DeepEqual(s, api.Step{}) {
			t.Errorf("%d: error %d, %+v", i, e, s)
		}
	}
	for i, c := range []api.Core{{}, program("x.i8", "", "")} {
		if s, e := obc.Make(c); e != api.OK || len(s.Body)+len(s.Vars)+len(s.Cells) > 0 || !sameVars(s.Ins, c.Ins) {
			t.Errorf("%d: error %d, %+v", i, e, s)
		}
	}
}
