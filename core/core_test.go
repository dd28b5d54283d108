package core_test

import (
	"math"
	"slices"
	"strconv"
	"strings"
	"testing"

	"metronome/api"
	"metronome/bv"
	"metronome/core"
)

func lit(kind, n int) api.CExp { return api.CExp{Form: api.ELit, Kind: kind, N: n} }

func ref(name string) api.CExp { return api.CExp{Form: api.EVar, Name: name} }

func un(op int, kid api.CExp) api.CExp {
	return api.CExp{Form: api.EUn, Sub: op, Kids: []api.CExp{kid}}
}

func bin(op int, a, b api.CExp) api.CExp {
	return api.CExp{Form: api.EBin, Sub: op, Kids: []api.CExp{a, b}}
}

func choose(a, b, c api.CExp) api.CExp {
	return api.CExp{Form: api.EIf, Kids: []api.CExp{a, b, c}}
}

func cast(kind int, kid api.CExp) api.CExp {
	return api.CExp{Form: api.ECast, Kind: kind, Kids: []api.CExp{kid}}
}

func when(kid api.CExp, name string, n int) api.CExp {
	return api.CExp{Form: api.EWhen, Name: name, N: n, Kids: []api.CExp{kid}}
}

func merge(name string, a, b api.CExp) api.CExp {
	return api.CExp{Form: api.EMerge, Name: name, Kids: []api.CExp{a, b}}
}

func def(name string, e api.CExp) api.CEq { return api.CEq{Form: api.CDef, Name: name, E: e} }

func mem(name string, init int, next, reset string) api.CEq {
	return api.CEq{Form: api.CMem, Name: name, Init: init, Next: next, Reset: reset}
}

func tick(name string, period, offset int) api.CEq {
	return api.CEq{Form: api.CTick, Name: name, Period: period, Offset: offset}
}

var kindNames = map[string]int{"bool": api.Bool, "i8": api.I8, "i16": api.I16, "i32": api.I32, "i64": api.I64, "u8": api.U8, "u16": api.U16, "u32": api.U32, "u64": api.U64}

// vars reads variables: each a name, a kind, and the edges of its clock, all parted by a dot; ! is not.
func vars(text string) (list []api.CVar) {
	for _, one := range strings.Fields(text) {
		words := strings.Split(one, ".")
		v := api.CVar{Name: words[0], Kind: kindNames[words[1]]}
		for _, name := range words[2:] {
			v.Clock = append(v.Clock, api.Edge{Name: strings.TrimPrefix(name, "!"), On: name[0] != '!'})
		}
		list = append(list, v)
	}
	return list
}

func program(ins, outs, locals string, eqs ...api.CEq) api.Core {
	return api.Core{Ins: vars(ins), Outs: vars(outs), Locals: vars(locals), Eqs: eqs}
}

// ticks reads a list of ticks: they are parted by blanks, the values of one by commas; a - alone is a tick without values.
func ticks(t *testing.T, text string) (all [][]int) {
	t.Helper()
	for _, one := range strings.Fields(text) {
		values := []int{}
		for _, digits := range strings.Split(one, ",") {
			if one == "-" {
				break
			}
			n, err := strconv.Atoi(digits)
			if err != nil {
				t.Fatal(err)
			}
			values = append(values, n)
		}
		all = append(all, values)
	}
	return all
}

func same(a, b [][]int) bool { return slices.EqualFunc(a, b, slices.Equal[[]int]) }

// tells runs a program: an arrow stands between the inputs and what must be told.
func tells(t *testing.T, c api.Core, what string) {
	t.Helper()
	in, out, _ := strings.Cut(what, ">")
	ins, want := ticks(t, in), ticks(t, out)
	if e := core.Check(c); e != api.OK {
		t.Errorf("%+v\nerror %d", c, e)
		return
	}
	if got, e := core.Run(c, ins); e != api.OK || !same(got, want) {
		t.Errorf("%+v\nof %v: error %d, %v, not %v", c, ins, e, got, want)
	}
	if got := meaning(c, ins, ""); !same(got, want) {
		t.Errorf("%+v\nof %v: the oracle tells %v, not %v", c, ins, got, want)
	}
}

// refused holds both calls to an error.
func refused(t *testing.T, c api.Core, want api.Errno) {
	t.Helper()
	if e := core.Check(c); e != want {
		t.Errorf("%.300s\nerror %d, not %d", show(c), e, want)
	}
	wanted := api.ErrForm
	if want == api.OK {
		wanted = api.OK
	}
	if outs, e := core.Run(c, nil); e != wanted || outs != nil {
		t.Errorf("%.300s\nRun: error %d, %v", show(c), e, outs)
	}
}

func show(c api.Core) string {
	text := ""
	for _, v := range c.Eqs {
		text += v.Name + " "
	}
	return text
}

func TestP1302Examples(t *testing.T) {
	y := def("y", bin(api.OpAdd, ref("m"), ref("x")))
	tells(t, program("x.i8", "y.i8", "m.i8", y, mem("m", 0, "y", "")), "1 2 3 > 1 3 6")
	tells(t, program("x.i8 r.bool", "y.i8", "m.i8", y, mem("m", 0, "y", "r")), "1,0 2,1 3,0 > 1 2 5")
}

func TestP1302Forms(t *testing.T) {
	one := func(kind string, e api.CExp) api.Core {
		return program("x.i8 c.bool d.bool", "y."+kind, "", def("y", e))
	}
	x, c, d := ref("x"), ref("c"), ref("d")
	for _, r := range []struct {
		c    api.Core
		what string
	}{
		{one("i8", lit(api.I8, -7)), "1,0,0 > -7"}, {one("u64", lit(api.U64, math.MinInt)), "1,0,0 > " + strconv.Itoa(math.MinInt)}, {one("i8", x), "1,0,0 -128,1,1 > 1 -128"},
		{one("i8", un(api.OpNeg, x)), "1,0,0 -128,1,1 > -1 -128"}, {one("i8", un(api.OpNot, x)), "1,0,0 > -2"}, {one("bool", un(api.OpNot, c)), "1,0,0 1,1,0 > 1 0"},
		{one("i8", bin(api.OpSub, x, lit(api.I8, 3))), "1,0,0 -128,0,0 > -2 125"}, {one("bool", bin(api.OpLt, x, lit(api.I8, 3))), "1,0,0 3,0,0 > 1 0"}, {one("bool", bin(api.OpImp, c, d)), "1,0,0 1,0,1 1,1,0 1,1,1 > 1 1 0 1"}, {one("i8", bin(api.OpDiv, x, lit(api.I8, 0))), "9,0,0 > 0"}, {one("bool", bin(api.OpEq, c, d)), "0,0,1 0,1,1 > 0 1"},
		{one("i8", choose(c, x, lit(api.I8, 5))), "1,0,0 2,1,0 > 5 2"}, {one("bool", choose(c, d, un(api.OpNot, d))), "1,0,0 1,1,0 1,1,1 > 1 0 1"},
		{one("u16", cast(api.U16, x)), "-1,0,0 > 65535"}, {one("bool", cast(api.Bool, x)), "-1,0,0 0,0,0 > 1 0"}, {one("i8", cast(api.I8, c)), "-1,1,0 > 1"}, {one("u8", cast(api.U8, cast(api.U16, x))), "-1,1,0 > 255"},
		{one("i8", merge("c", when(x, "c", 1), when(lit(api.I8, 9), "c", 0))), "1,0,0 2,1,0 > 9 2"}, {one("i8", merge("c", lit(api.I8, 8), when(x, "c", 0))), "1,0,0 2,1,0 > 1 8"}, {one("i8", merge("c", lit(api.I8, 8), lit(api.I8, 9))), "1,0,0 2,1,0 > 9 8"}, {one("bool", merge("c", when(c, "c", 1), when(c, "c", 0))), "1,0,0 2,1,0 > 0 1"},
		{one("i8", merge("d", when(merge("c", lit(api.I8, 1), lit(api.I8, 2)), "d", 1), lit(api.I8, 3))), "0,0,0 0,1,0 0,0,1 0,1,1 > 3 3 2 1"},
	} {
		tells(t, r.c, r.what)
	}
}

func TestP1302Memories(t *testing.T) {
	tells(t, program("x.i8", "y.i8", "", mem("y", -3, "x", "")), "1 2 3 > -3 1 2")
	tells(t, program("", "y.i8", "", mem("y", -3, "y", "")), "- - > -3 -3")
	tells(t, program("x.i8 r.bool", "y.i8", "", mem("y", 5, "x", "r")), "1,1 2,0 3,1 4,1 6,0 > 5 1 5 5 4")
	tells(t, program("x.bool", "y.bool", "", mem("y", 1, "x", "x")), "0 0 1 0 > 1 0 1 1")
	tells(t, program("x.i8", "y.i8 z.i8", "", mem("y", 1, "z", ""), mem("z", 2, "y", "")), "0 0 0 > 1,2 2,1 1,2")
	// what is on a clock is kept from activation to activation
	counts := func(reset string) api.Core {
		return program("x.i8 c.bool r.bool", "y.i8", "z.i8.c s.bool.c n.i8.c", mem("z", 1, "n", reset), def("n", bin(api.OpAdd, ref("z"), when(ref("x"), "c", 1))), def("s", when(ref("r"), "c", 1)), def("y", merge("c", ref("z"), lit(api.I8, 0))))
	}
	tells(t, counts(""), "5,0,0 1,1,0 9,0,0 2,1,0 9,0,1 3,1,1 1,1,0 > 0 1 0 2 0 4 7")
	tells(t, counts("s"), "5,0,1 1,1,0 9,0,0 2,1,0 9,0,1 3,1,1 1,1,0 9,0,1 1,1,0 > 0 1 0 2 0 1 4 0 5")
	tells(t, program("c.bool d.bool", "y.i8", "e.bool.!c z.i8.!c.e n.i8.!c.e w.i8.!c", def("e", when(ref("d"), "c", 0)), mem("z", 1, "n", ""), def("n", bin(api.OpAdd, ref("z"), lit(api.I8, 1))), def("w", merge("e", ref("z"), lit(api.I8, 50))), def("y", merge("c", lit(api.I8, 100), ref("w")))), "0,1 1,1 1,0 0,0 0,1 0,1 1,1 0,1 > 1 100 100 50 2 3 100 4")
}

func TestP1302Ticks(t *testing.T) {
	tells(t, program("", "y.bool z.bool", "", tick("y", 3, 1), tick("z", 1, 0)), "- - - - - > 0,1 1,1 0,1 0,1 1,1")
	c := program("", "y.bool", "", tick("y", 64, 63))
	outs, e := core.Run(c, make([][]int, 1000))
	for i, o := range outs {
		if o[0] != bv.Wrap(api.Bool, (i%64+1)/64) {
			t.Errorf("tick %d: %v", i, o)
		}
	}
	if e != api.OK || len(outs) != 1000 {
		t.Errorf("error %d", e)
	}
}

func TestP1302Refused(t *testing.T) {
	c := program("x.i8 b.bool", "y.i8", "", def("y", ref("x")))
	bad := program("x.i8 b.bool", "y.i8", "", def("y", ref("b")))
	long := slices.Repeat([][]int{{1, 0}}, api.MaxTicks+1)
	for i, r := range []struct {
		c    api.Core
		ins  [][]int
		want api.Errno
	}{
		{c, nil, api.OK}, {c, [][]int{}, api.OK}, {c, long[1:], api.OK}, {c, long, api.ErrLong}, {c, append(slices.Clone(long), nil), api.ErrLong}, {bad, long, api.ErrForm}, {bad, nil, api.ErrForm}, {bad, [][]int{{1, 0}}, api.ErrForm},
		{c, [][]int{{1}}, api.ErrCount}, {c, [][]int{{1, 0, 0}}, api.ErrCount}, {c, [][]int{nil}, api.ErrCount}, {c, [][]int{{128, 0}}, api.ErrArg}, {c, [][]int{{0, 2}}, api.ErrArg}, {c, [][]int{{0, -1}}, api.ErrArg}, {c, [][]int{{-129, 1}}, api.ErrArg},
		{c, [][]int{{1, 0}, {1, 2}}, api.ErrArg}, {c, [][]int{{1, 0}, {1, 2}, {1}}, api.ErrArg}, {c, [][]int{{1, 0}, {1}, {1, 2}}, api.ErrCount}, {c, [][]int{{300}}, api.ErrCount}, {c, [][]int{{300, 0, 0}}, api.ErrCount},
	} {
		outs, e := core.Run(r.c, r.ins)
		if e != r.want || e != api.OK && outs != nil || e == api.OK && len(outs) != len(r.ins) {
			t.Errorf("%d: error %d, %v", i, e, outs)
		}
	}
	if outs, e := core.Run(api.Core{}, [][]int{{}, nil}); e != api.OK || !same(outs, [][]int{{}, {}}) {
		t.Errorf("error %d, %v", e, outs)
	}
}

// chain is an expression that is so deep.
func chain(deep int) api.CExp {
	e := ref("x")
	for range deep - 1 {
		e = un(api.OpNot, e)
	}
	return e
}

// wide is an expression of so many parts (an odd number), not too deep.
func wide(parts int) api.CExp {
	if parts < 3 {
		return ref("x")
	}
	half := (parts - 1) / 2
	half -= 1 - half%2
	return bin(api.OpOr, wide(half), wide(parts-1-half))
}

func many(ins, locals int) (c api.Core) {
	c = program("x.i8", "y.i8", "", def("y", ref("x")))
	for i := range ins {
		c.Ins = append(c.Ins, api.CVar{Name: "i" + strconv.Itoa(i), Kind: api.I8})
	}
	for i := range locals {
		name := "l" + strconv.Itoa(i)
		c.Locals = append(c.Locals, api.CVar{Name: name, Kind: api.I8})
		c.Eqs = append(c.Eqs, def(name, ref("x")))
	}
	return c
}

func TestP1301Long(t *testing.T) {
	one := func(e api.CExp) api.Core { return program("x.i8", "y.i8", "", def("y", e)) }
	refused(t, one(chain(400)), api.OK)
	refused(t, one(chain(401)), api.ErrLong)
	refused(t, one(bin(api.OpOr, ref("x"), chain(400))), api.ErrLong)
	refused(t, one(bin(api.OpOr, chain(399), ref("x"))), api.OK)
	if n := len(inner(wide(1999))); n != 1999 {
		t.Fatal(n)
	}
	refused(t, one(wide(1999)), api.OK)
	refused(t, one(un(api.OpNot, wide(1999))), api.OK)
	refused(t, one(wide(2001)), api.ErrLong)
	refused(t, one(un(api.OpNot, un(api.OpNot, wide(1999)))), api.ErrLong)
	for _, r := range []struct {
		ins, locals int
		want        api.Errno
	}{
		{0, 1998, api.OK}, {0, 1999, api.ErrLong}, {1998, 0, api.OK}, {1999, 0, api.ErrLong}, {998, 1000, api.OK}, {999, 1000, api.ErrLong},
	} {
		refused(t, many(r.ins, r.locals), r.want)
	}
	// equations alone, and what is not looked at
	c := many(0, 0)
	c.Eqs = slices.Repeat(c.Eqs, 2000)
	refused(t, c, api.ErrTwice)
	c.Eqs = append(c.Eqs, c.Eqs[0])
	refused(t, c, api.ErrLong)
	m := program("x.i8", "y.i8 z.bool", "", mem("y", 0, "x", ""), tick("z", 2, 0))
	m.Eqs[0].E, m.Eqs[1].E = chain(500), chain(500)
	refused(t, m, api.OK)
	m.Eqs[0].Form = 7
	refused(t, m, api.ErrForm)
	// deep within wide, of many equations
	deep := chain(1 << 16)
	refused(t, one(deep), api.ErrLong)
	heavy := many(0, 1998)
	for i := range heavy.Eqs {
		heavy.Eqs[i].E = wide(1999)
	}
	refused(t, heavy, api.OK)
}

// TestP1301Rules has a row or more for each thing that may be wrong, and those next to it that are right.
func TestP1301Rules(t *testing.T) {
	x, b := ref("x"), ref("b")
	one := func(kind string, e api.CExp) api.Core {
		return program("x.i8 b.bool", "y."+kind, "", def("y", e))
	}
	kids := func(form int, list ...api.CExp) api.Core {
		return one("bool", api.CExp{Form: form, Sub: api.OpOr, Kind: api.Bool, Name: "b", Kids: list})
	}
	for _, r := range []struct {
		want api.Errno
		list []api.Core
	}{
		{api.OK, []api.Core{{}, program("x.i8", "", ""), program("", "y.u64", "", def("y", lit(api.U64, -1))), one("bool", un(api.OpNot, b)), kids(api.ECast, x), kids(api.ECast, b)}},
		{api.ErrTwice, []api.Core{program("x.i8 x.i8", "", ""), program("x.i8", "x.i8", "", def("x", x)), program("x.i8", "y.i8", "y.i8", def("y", x)), program("x.i8", "", "x.bool", def("x", b)), program("x.i8", "y.i8", "", def("y", x), def("y", x)), program("x.i8", "y.i8", "", def("n", x), def("n", x)), program("x.i8", "y.i8", "", def("y", x), mem("y", 0, "x", ""))}},
		{api.ErrType, []api.Core{program("x.none", "", ""), program("", "y.none", "", def("y", lit(0, 0))), program("", "", "l.none", def("l", ref("none")))}},
		{api.ErrName, []api.Core{program("x.i8", "", "", def("x", lit(api.I8, 0))), program("x.i8", "", "", def("n", x)), one("i8", ref("n")), one("i8", ref("")), one("i8", un(api.OpNot, ref("n"))), one("bool", merge("n", b, b)), one("bool", when(b, "n", 1)), program("", "y.i8.n", "", def("y", lit(api.I8, 0))), program("b.bool", "", "l.i8.b.n", def("l", lit(api.I8, 0))), program("b.bool.n", "", ""), program("x.i8", "y.i8", "", mem("y", 0, "n", "")), program("x.i8", "y.i8", "", mem("y", 0, "", "")), program("x.i8", "y.i8", "", mem("y", 0, "y", "n")), one("i8", api.CExp{Form: 99, Kids: []api.CExp{ref("n")}}), kids(api.ELit, ref("n"))}},
		{api.ErrMissing, []api.Core{program("x.i8", "y.i8", ""), program("x.i8", "", "l.i8"), program("x.i8", "y.i8 z.i8", "l.i8", def("y", x), def("l", x))}},
		{api.ErrForm, []api.Core{one("i8", api.CExp{}), one("i8", api.CExp{Form: api.EPre, Kids: []api.CExp{x}}), one("i8", api.CExp{Form: api.ETick}), one("i8", api.CExp{Form: -1}), one("i8", api.CExp{Form: math.MaxInt}), program("x.i8", "y.i8", "", api.CEq{Name: "y"}), program("x.i8", "y.i8", "", api.CEq{Form: 4, Name: "y"}),
			kids(api.ELit, b), kids(api.EVar, b), kids(api.EUn), kids(api.EUn, b, b), kids(api.EBin, b), kids(api.EBin, b, b, b), kids(api.EIf, b, b), kids(api.EIf, b, b, b, b), kids(api.ECast), kids(api.ECast, b, b), kids(api.EWhen), kids(api.EWhen, b, b), kids(api.EMerge, b), kids(api.EMerge, b, b, b),
			program("x.i8", "y.i8", "", mem("y", 128, "x", "")), program("x.i8", "y.bool", "", mem("y", 2, "y", "")), program("x.i8", "y.u8", "", mem("y", -1, "y", "")), one("i8", lit(api.I8, 200)), one("i8", lit(0, 0)), one("i8", lit(10, 0)), one("bool", lit(api.Bool, -1)), one("i8", un(api.OpNot, lit(api.U8, 256))),
			program("", "y.bool", "", tick("y", 0, 0)), program("", "y.bool", "", tick("y", -1, -2)), program("", "y.bool", "", tick("y", 65, 0)), program("", "y.bool", "", tick("y", 3, 3)), program("", "y.bool", "", tick("y", 3, -1)), one("bool", when(b, "b", 2)), one("bool", when(b, "b", -1))}},
		{api.ErrType, []api.Core{one("i8", un(api.OpNeg, b)), one("i8", un(api.OpImp, x)), one("i8", un(0, x)), one("bool", un(api.OpNeg, b)), one("i8", bin(api.OpImp, x, x)), one("bool", bin(api.OpAdd, b, b)), one("bool", bin(api.OpLt, b, b)), one("i8", bin(api.OpNot, x, x)), one("i8", bin(api.OpAdd, x, lit(api.U8, 1))), one("bool", bin(api.OpEq, b, x)), one("i8", bin(api.OpEq, x, x)), one("bool", bin(api.OpOr, x, x)),
			one("i8", choose(x, x, x)), one("i8", choose(b, x, b)), one("i8", choose(b, b, x)), one("bool", choose(b, x, x)), one("i8", cast(api.I16, x)), one("i8", cast(0, x)), one("i8", cast(api.I8, cast(0, x))), one("i8", cast(api.I8, cast(10, x))), one("i8", choose(b, cast(0, x), cast(0, x))), one("i8", b), one("bool", x), one("i8", lit(api.U8, 1)),
			one("bool", merge("x", b, b)), one("bool", when(b, "x", 1)), one("i8", merge("b", x, b)), one("i8", merge("b", b, x)), one("bool", merge("b", x, x)), program("x.i8", "", "l.i8.x", def("l", when(x, "x", 1))), program("x.i8 b.bool", "", "l.i8.b.x", def("l", x)),
			program("x.i8 b.bool", "y.i8", "", mem("y", 0, "b", "")), program("x.i8 b.bool", "y.i8", "", mem("y", 0, "x", "x")), program("x.i8 b.bool", "y.i8", "", tick("y", 2, 1))}},
		{api.ErrClock, []api.Core{one("bool", when(b, "b", 1)), one("bool", merge("b", b, lit(api.Bool, 1))), one("bool", merge("b", lit(api.Bool, 1), b)), one("bool", merge("b", when(b, "b", 0), when(b, "b", 0))), one("bool", merge("b", when(b, "b", 1), when(b, "b", 1))), one("bool", bin(api.OpOr, b, when(b, "b", 1)))}},
	} {
		for _, c := range r.list {
			refused(t, c, r.want)
		}
	}
}

func TestP1301Clocks(t *testing.T) {
	x, b, c := ref("x"), ref("b"), ref("c")
	one := lit(api.I8, 1)
	y := def("y", x)
	of := func(locals string, eqs ...api.CEq) api.Core {
		return program("x.i8 b.bool c.bool", "y.i8", locals, append(eqs, y)...)
	}
	for _, c := range []api.Core{
		of("l.i8.b", def("l", when(x, "b", 1))), of("l.i8.!b", def("l", when(x, "b", 0))), of("l.i8.b", def("l", one)), of("l.i8.b", mem("l", 0, "l", "")), of("l.bool.b m.i8.b.l", def("l", when(c, "b", 1)), def("m", when(when(x, "b", 1), "l", 1))), of("m.i8.b.!l l.bool.b", def("l", when(c, "b", 1)), def("m", when(one, "l", 0))), of("l.bool.b m.i8.b.l n.i8.b", def("l", when(c, "b", 1)), def("m", one), def("n", merge("l", ref("m"), one))),
		of("l.i8.b m.i8.b", def("l", one), def("m", bin(api.OpAdd, ref("l"), one))), of("l.i8.b", def("l", choose(when(c, "b", 1), when(x, "b", 1), one))), of("l.i8.b r.bool.b", def("r", when(c, "b", 1)), mem("l", 0, "l", "r")),
	} {
		refused(t, c, api.OK)
	}
	for _, c := range []api.Core{
		program("b.bool x.i8.b", "", ""), program("b.bool", "y.i8.b", "", def("y", one)), program("x.i8", "y.i8", "b.bool.b", def("y", x), mem("b", 0, "b", "")), of("t.bool.b", tick("t", 2, 0)), of("l.i8.b.c", def("l", when(x, "b", 1))), of("l.i8.b.b", def("l", one)), of("l.bool.b m.i8.l", def("l", when(c, "b", 1)), def("m", one)), of("l.bool.b m.i8.!b.l", def("l", when(c, "b", 1)), def("m", one)), of("l.bool.b m.i8.c.l", def("l", when(c, "b", 1)), def("m", one)), of("l.bool.m m.bool.l", mem("l", 0, "l", ""), mem("m", 0, "m", "")), of("l.bool.b m.bool.b n.i8.b.l.m", def("l", when(c, "b", 1)), def("m", ref("l")), def("n", one)),
		of("l.i8.b", def("l", x)), of("l.i8.b", def("l", when(x, "b", 0))), of("l.i8.b", def("l", when(x, "c", 1))), of("l.i8.b", def("l", when(one, "c", 1))), of("l.i8.b", def("l", bin(api.OpAdd, when(x, "b", 1), x))), of("l.i8.b", def("l", bin(api.OpAdd, x, when(x, "b", 1)))), of("l.i8.b", def("l", when(when(x, "b", 1), "b", 1))), of("l.i8.b", def("l", choose(b, when(x, "b", 1), one))), of("l.i8.b", def("l", choose(when(b, "b", 1), one, x))), of("l.i8.b m.i8", def("l", one), def("m", ref("l"))), of("l.bool.b m.i8.b", def("l", when(c, "b", 1)), def("m", merge("l", one, when(when(x, "b", 1), "l", 1)))), of("l.bool.b m.i8", def("l", when(c, "b", 1)), def("m", merge("l", one, one))),
		of("l.i8.b", mem("l", 0, "x", "")), of("l.bool.b", mem("l", 0, "l", "b")), of("l.bool m.bool.b", def("m", when(b, "b", 1)), mem("l", 0, "l", "m")), of("l.i8 k.i8.b", def("k", one), mem("l", 0, "k", "")), of("l.bool.b", mem("l", 0, "b", "")), of("l.bool.!b m.bool.b", def("m", when(b, "b", 1)), mem("l", 0, "m", "")),
	} {
		refused(t, c, api.ErrClock)
	}
	// clocks as long as may be, all of one row of variables
	long := program("b.bool", "", "")
	names := ".b"
	for i := range 900 {
		name := "l" + strconv.Itoa(i)
		long.Locals = append(long.Locals, vars(name+".bool"+names)...)
		long.Eqs = append(long.Eqs, mem(name, 1, name, ""))
		names += "." + name
	}
	refused(t, long, api.OK)
	long.Locals[899].Clock[898].On = false
	refused(t, long, api.ErrClock)
	long.Locals[899].Clock = slices.Repeat(long.Locals[899].Clock[:1], 1<<20)
	refused(t, long, api.ErrClock)
}

func TestP1301Cycles(t *testing.T) {
	x := ref("x")
	of := func(locals string, eqs ...api.CEq) api.Core {
		return program("x.i8 b.bool c.bool", "y.i8", locals, eqs...)
	}
	one, yes := lit(api.I8, 1), lit(api.Bool, 1)
	for _, c := range []api.Core{
		of("", mem("y", 0, "y", "")), of("l.i8", def("y", ref("l")), mem("l", 0, "y", "")), of("l.i8 m.i8", def("y", ref("l")), def("l", ref("m")), def("m", x)), of("l.bool", def("y", x), mem("l", 0, "l", "b")), of("l.bool m.bool", def("y", x), mem("l", 0, "m", ""), mem("m", 0, "l", "l")),
		of("l.bool m.bool.l", def("y", x), def("m", yes), mem("l", 0, "l", "")),
	} {
		refused(t, c, api.OK)
	}
	for _, c := range []api.Core{
		of("", def("y", ref("y"))), of("", def("y", choose(ref("b"), x, ref("y")))), of("l.i8", def("y", ref("l")), def("l", ref("y"))), of("l.i8 m.i8", def("y", x), def("l", bin(api.OpAdd, x, ref("m"))), def("m", ref("l"))), of("l.bool", def("y", x), mem("l", 0, "b", "l")), of("l.bool m.bool", def("y", x), mem("l", 0, "b", "m"), def("m", un(api.OpNot, ref("l")))),
		of("l.bool", def("y", x), def("l", merge("l", yes, yes))), of("l.bool", def("y", merge("l", one, one)), def("l", merge("b", when(bin(api.OpEq, ref("y"), one), "b", 1), yes))), of("l.bool", def("y", x), def("l", merge("l", when(ref("b"), "l", 1), yes))), of("l.bool m.bool.l", def("y", x), def("m", yes), def("l", merge("l", ref("m"), yes))),
		of("l.bool m.bool.l n.bool", def("y", x), mem("m", 0, "m", ""), def("l", ref("n")), def("n", merge("l", ref("m"), yes))),
	} {
		refused(t, c, api.ErrCycle)
	}
}

// TestP1301Order: of two things that are wrong the one is told that comes first.
func TestP1301Order(t *testing.T) {
	x := ref("x")
	wrong := []struct {
		what   api.Errno
		locals string
		eqs    []api.CEq
	}{
		{api.ErrLong, "long.i8", []api.CEq{def("long", chain(401))}},
		{api.ErrTwice, "two.i8 two.i8", []api.CEq{def("two", x)}},
		{api.ErrType, "kind.none", []api.CEq{def("kind", x)}},
		{api.ErrName, "name.i8", []api.CEq{def("name", ref("nobody"))}},
		{api.ErrMissing, "missing.i8", nil},
		{api.ErrForm, "form.i8", []api.CEq{{Form: 9, Name: "form"}}},
		{api.ErrType, "type.i8", []api.CEq{def("type", ref("b"))}},
		{api.ErrClock, "clock.i8.b", []api.CEq{def("clock", x)}},
		{api.ErrCycle, "cycle.i8", []api.CEq{def("cycle", ref("cycle"))}},
	}
	for i, one := range wrong {
		for _, other := range wrong[i:] {
			for _, locals := range []string{one.locals + " " + other.locals, other.locals + " " + one.locals} {
				if one.locals == other.locals {
					locals = one.locals
				}
				for _, eqs := range [][]api.CEq{slices.Concat(one.eqs, other.eqs), slices.Concat(other.eqs, one.eqs)} {
					if one.locals == other.locals {
						eqs = one.eqs
					}
					refused(t, program("x.i8 b.bool", "", locals, eqs...), one.what)
				}
			}
		}
	}
	// in one equation
	refused(t, program("x.i8 b.bool", "y.i8", "", def("y", bin(api.OpAdd, lit(0, 0), ref("n")))), api.ErrName)
	refused(t, program("x.i8 b.bool", "y.i8", "", def("y", bin(api.OpAdd, ref("b"), lit(api.I8, 200)))), api.ErrForm)
	refused(t, program("x.i8 b.bool", "y.i8", "", def("y", bin(api.OpAdd, when(x, "b", 1), ref("b")))), api.ErrType)
	refused(t, program("x.i8 b.bool", "y.i8", "", def("y", bin(api.OpAdd, when(x, "b", 1), ref("y")))), api.ErrClock)
	refused(t, program("x.i8", "y.i8", "", mem("y", 300, "n", "")), api.ErrName)
	refused(t, program("x.i8", "y.i8", "", mem("y", 300, "y", "x")), api.ErrForm)
	refused(t, program("x.i8 b.bool", "y.i8", "l.bool.b", def("y", x), mem("l", 0, "x", "b")), api.ErrType)
}

// TestP1301Empty: an empty text is a name, too, but no Reset.
func TestP1301Empty(t *testing.T) {
	c := program("", ".bool", "", mem("", 1, "", ""))
	refused(t, c, api.OK)
	tells(t, c, "- - > 1 1")
	refused(t, program("", ".bool", "l.i8", mem("", 1, "", ""), mem("l", 0, "l", "")), api.OK)
}
