package obc_test

import (
	"math"
	"slices"
	"strconv"
	"strings"
	"testing"

	"metronome/api"
	"metronome/obc"
)

func lit(kind, n int) api.CExp { return api.CExp{Form: api.ELit, Kind: kind, N: n} }

func ref(name string) api.CExp { return api.CExp{Form: api.EVar, Name: name} }

func un(op int, kid api.CExp) api.CExp {
	return api.CExp{Form: api.EUn, Sub: op, Kids: []api.CExp{kid}}
}

func bin(op int, a, b api.CExp) api.CExp {
	return api.CExp{Form: api.EBin, Sub: op, Kids: []api.CExp{a, b}}
}

func choose(a, b, c api.CExp) api.CExp {
	return api.CExp{Form: api.EIf, Kids: []api.CExp{a, b, c}}
}

func cast(kind int, kid api.CExp) api.CExp {
	return api.CExp{Form: api.ECast, Kind: kind, Kids: []api.CExp{kid}}
}

func when(kid api.CExp, name string, n int) api.CExp {
	return api.CExp{Form: api.EWhen, Name: name, N: n, Kids: []api.CExp{kid}}
}

func merge(name string, a, b api.CExp) api.CExp {
	return api.CExp{Form: api.EMerge, Name: name, Kids: []api.CExp{a, b}}
}

func set(name string, e api.CExp) api.Stmt { return api.Stmt{Form: api.SSet, Name: name, E: e} }

func store(name string, e api.CExp) api.Stmt { return api.Stmt{Form: api.SStore, Name: name, E: e} }

func list(all ...api.Stmt) []api.Stmt { return all }

func fork(e api.CExp, yes, no []api.Stmt) api.Stmt {
	return api.Stmt{Form: api.SIf, E: e, Then: yes, Else: no}
}

var kindNames = map[string]int{"bool": api.Bool, "i8": api.I8, "i16": api.I16, "i32": api.I32, "i64": api.I64, "u8": api.U8, "u16": api.U16, "u32": api.U32, "u64": api.U64}

// vars reads variables: each a name, a kind, and the edges of its clock, all parted by a dot; ! is not.
func vars(text string) (list []api.CVar) {
	for _, one := range strings.Fields(text) {
		words := strings.Split(one, ".")
		v := api.CVar{Name: words[0], Kind: kindNames[words[1]]}
		for _, name := range words[2:] {
			v.Clock = append(v.Clock, api.Edge{Name: strings.TrimPrefix(name, "!"), On: name[0] != '!'})
		}
		list = append(list, v)
	}
	return list
}

// cells reads cells: each a name, a kind, and what it is at first.
func cells(text string) (list []api.Cell) {
	for _, one := range strings.Fields(text) {
		words := strings.Split(one, ".")
		n, _ := strconv.Atoi(words[2])
		list = append(list, api.Cell{Name: words[0], Kind: kindNames[words[1]], Init: n})
	}
	return list
}

func step(ins, outs, more, kept string, body ...api.Stmt) api.Step {
	return api.Step{Ins: vars(ins), Outs: vars(outs), Vars: vars(more), Cells: cells(kept), Body: body}
}

// ticks reads a list of ticks: they are parted by blanks, the values of one by commas; a - alone is a tick without values.
func ticks(t *testing.T, text string) (all [][]int) {
	t.Helper()
	for _, one := range strings.Fields(text) {
		values := []int{}
		for _, digits := range strings.Split(one, ",") {
			if one == "-" {
				break
			}
			n, err := strconv.Atoi(digits)
			if err != nil {
				t.Fatal(err)
			}
			values = append(values, n)
		}
		all = append(all, values)
	}
	return all
}

func same(a, b [][]int) bool { return slices.EqualFunc(a, b, slices.Equal[[]int]) }

// tells runs step code: an arrow stands between the inputs and what must be told.
func tells(t *testing.T, s api.Step, what string) {
	t.Helper()
	in, out, _ := strings.Cut(what, ">")
	ins, want := ticks(t, in), ticks(t, out)
	if e := obc.Check(s); e != api.OK {
		t.Errorf("%+v\nerror %d", s, e)
		return
	}
	if got, e := obc.Run(s, ins); e != api.OK || !same(got, want) {
		t.Errorf("%+v\nof %v: error %d, %v, not %v", s, ins, e, got, want)
	}
	if got := played(s, ins, ""); !same(got, want) {
		t.Errorf("%+v\nof %v: the oracle tells %v, not %v", s, ins, got, want)
	}
}

// refused holds Check to an error, and Run to what it says then.
func refused(t *testing.T, s api.Step, want api.Errno) {
	t.Helper()
	if e := obc.Check(s); e != want {
		t.Errorf("%.300s\nerror %d, not %d", show(s), e, want)
	}
	wanted := api.ErrForm
	if want == api.OK {
		wanted = api.OK
	}
	if outs, e := obc.Run(s, nil); e != wanted || outs != nil {
		t.Errorf("%.300s\nRun: error %d, %v", show(s), e, outs)
	}
}

func show(s api.Step) string {
	text := ""
	for _, one := range s.Body {
		text += strconv.Itoa(one.Form) + one.Name + " "
	}
	return text
}

func TestP1702Rows(t *testing.T) {
	x, c, m, y, w := ref("x"), ref("c"), ref("m"), ref("y"), ref("w")
	one := lit(api.I8, 1)
	of := func(body ...api.Stmt) api.Step {
		return step("x.i8 c.bool", "y.i8", "w.i8", "m.i8.3", body...)
	}
	for _, r := range []struct {
		s    api.Step
		what string
	}{
		{api.Step{}, "- - > - -"}, {step("", "y.i8 z.bool", "", ""), "- - > 0,0 0,0"},
		// what there is at first, and what stays
		{of(), "5,1 6,0 > 0 0"}, {of(set("y", m)), "5,1 6,0 > 3 3"}, {of(set("y", w)), "5,1 6,0 > 0 0"}, {of(set("y", y)), "5,1 6,0 > 0 0"}, {of(set("y", bin(api.OpAdd, y, x)), set("y", bin(api.OpAdd, y, x))), "5,1 6,0 > 10 12"},
		{of(set("y", bin(api.OpAdd, w, m)), set("w", x), store("m", x)), "5,1 6,0 7,0 > 3 5 6"},
		// at once, one behind the other
		{of(store("m", x), set("y", m)), "5,1 6,0 > 5 6"}, {of(set("y", m), store("m", x)), "5,1 6,0 7,1 > 3 5 6"}, {of(store("m", bin(api.OpAdd, m, m)), store("m", bin(api.OpAdd, m, one)), set("y", m)), "0,0 0,0 > 7 15"}, {of(set("w", x), set("y", w), set("w", one)), "5,1 6,0 > 5 6"}, {of(set("y", one), set("y", x)), "5,1 > 5"},
		// one way or the other
		{of(fork(c, list(set("y", x)), list(set("y", m)))), "5,1 6,0 > 5 3"}, {of(fork(c, nil, list(store("m", x))), set("y", m)), "5,1 6,0 7,1 > 3 6 6"}, {of(fork(c, list(store("m", x)), nil), set("y", m)), "5,1 6,0 7,1 > 5 5 7"}, {of(fork(c, nil, nil), set("y", x)), "5,1 6,0 > 5 6"},
		{of(fork(c, list(set("w", one), fork(bin(api.OpLt, x, m), list(set("y", w)), list(set("y", x), store("m", x)))), list(fork(bin(api.OpEq, x, m), list(set("y", lit(api.I8, 100))), nil)))), "2,1 9,1 9,0 8,1 8,0 > 1 9 100 1 0"},
		{of(fork(c, list(set("y", one)), nil), fork(bin(api.OpEq, y, one), list(set("y", x)), list(set("y", m)))), "5,1 6,0 > 5 3"},
		// a condition is asked once
		{step("", "y.i8", "b.bool", "", fork(un(api.OpNot, ref("b")), list(set("b", lit(api.Bool, 1)), set("y", lit(api.I8, 7))), list(set("y", lit(api.I8, 9))))), "- - > 7 7"},
		// expressions
		{of(set("y", un(api.OpNeg, x))), "-128,0 5,0 > -128 -5"}, {of(set("y", bin(api.OpSub, x, m))), "-128,0 5,0 > 125 2"}, {of(set("y", bin(api.OpDiv, x, lit(api.I8, 0)))), "9,0 > 0"}, {of(set("y", choose(c, x, m))), "9,0 9,1 > 3 9"}, {of(set("y", cast(api.I8, bin(api.OpGe, x, m)))), "2,0 3,0 > 0 1"}, {of(set("y", cast(api.I8, cast(api.U16, x)))), "-1,0 > -1"},
		{step("x.u64", "y.bool z.u64", "", "", set("y", bin(api.OpLt, ref("x"), lit(api.U64, 1))), set("z", bin(api.OpShr, ref("x"), lit(api.U64, 63)))), "-1 0 > 0,1 1,0"}, {step("x.i8", "y.u16", "", "", set("y", cast(api.U16, ref("x")))), "-1 > 65535"},
		// outputs, in order
		{step("a.i8 b.i8", "p.i8 q.i8", "", "", set("q", ref("a")), set("p", ref("b"))), "1,2 3,4 > 2,1 4,3"},
	} {
		tells(t, r.s, r.what)
	}
}

func TestP1702Refused(t *testing.T) {
	s := step("x.i8 b.bool", "y.i8", "", "", set("y", ref("x")))
	bad := step("x.i8 b.bool", "y.i8", "", "", set("y", ref("b")))
	long := slices.Repeat([][]int{{1, 0}}, api.MaxTicks+1)
	for i, r := range []struct {
		s    api.Step
		ins  [][]int
		want api.Errno
	}{
		{s, nil, api.OK}, {s, [][]int{}, api.OK}, {s, long[1:], api.OK}, {s, long, api.ErrLong}, {s, append(slices.Clone(long), nil), api.ErrLong}, {bad, long, api.ErrForm}, {bad, nil, api.ErrForm}, {bad, [][]int{{1, 0}}, api.ErrForm},
		{s, [][]int{{1}}, api.ErrCount}, {s, [][]int{{1, 0, 0}}, api.ErrCount}, {s, [][]int{nil}, api.ErrCount}, {s, [][]int{{128, 0}}, api.ErrArg}, {s, [][]int{{0, 2}}, api.ErrArg}, {s, [][]int{{0, -1}}, api.ErrArg}, {s, [][]int{{-129, 1}}, api.ErrArg},
		{s, [][]int{{1, 0}, {1, 2}}, api.ErrArg}, {s, [][]int{{1, 0}, {1, 2}, {1}}, api.ErrArg}, {s, [][]int{{1, 0}, {1}, {1, 2}}, api.ErrCount}, {s, [][]int{{300}}, api.ErrCount}, {s, [][]int{{300, 0, 0}}, api.ErrCount},
	} {
		outs, e := obc.Run(r.s, r.ins)
		if e != r.want || e != api.OK && outs != nil || e == api.OK && len(outs) != len(r.ins) {
			t.Errorf("%d: error %d, %v", i, e, outs)
		}
	}
}

// chain is an expression that is so deep.
func chain(deep int) api.CExp {
	e := ref("x")
	for range deep - 1 {
		e = un(api.OpNot, e)
	}
	return e
}

// wide is an expression of so many parts (an odd number), not too deep.
func wide(parts int) api.CExp {
	if parts < 3 {
		return ref("x")
	}
	half := (parts - 1) / 2
	half -= 1 - half%2
	return bin(api.OpOr, wide(half), wide(parts-1-half))
}

// nested is a statement with others within it, so deep, on the one side or the other.
func nested(s api.Stmt, deep int, side func(int) bool) api.Stmt {
	for i := range deep - 1 {
		if side(i) {
			s = fork(ref("b"), list(s), nil)
		} else {
			s = fork(ref("b"), nil, list(s))
		}
	}
	return s
}

func numbered(ahead string, count int) (list []api.CVar) {
	for i := range count {
		list = append(list, api.CVar{Name: ahead + strconv.Itoa(i), Kind: api.I8})
	}
	return list
}

func TestP1701LongStatements(t *testing.T) {
	y := set("y", ref("x"))
	of := func(body ...api.Stmt) api.Step { return step("x.i8 b.bool", "y.i8", "", "m.i8.0", body...) }
	yes, no, both := func(int) bool { return true }, func(int) bool { return false }, func(i int) bool { return i%3 == 0 }
	for i, side := range []func(int) bool{yes, no, both} {
		for _, s := range []api.Stmt{y, store("m", ref("x")), fork(ref("b"), nil, nil), set("y", chain(400))} {
			refused(t, of(y, nested(s, 400, side), y), api.OK)
			refused(t, of(y, nested(s, 401, side), y), api.ErrLong)
		}
		refused(t, of(nested(y, 1<<16, side)), api.ErrLong)
		many := slices.Repeat(list(y), 20000)
		refused(t, of(many...), api.OK)
		refused(t, of(append(many, y)...), api.ErrLong)
		refused(t, of(many[:19000]...), api.OK)
		for _, r := range []struct {
			outside, inside int
			want            api.Errno
		}{{0, 19999, api.OK}, {0, 20000, api.ErrLong}, {9999, 10000, api.OK}, {10000, 10000, api.ErrLong}, {19999, 0, api.OK}, {20000, 0, api.ErrLong}} {
			s := fork(ref("b"), many[:r.inside], nil)
			if i == 1 {
				s = fork(ref("b"), nil, many[:r.inside])
			} else if i == 2 {
				s = fork(ref("b"), many[:r.inside/2], many[r.inside/2:r.inside])
			}
			refused(t, of(append(slices.Clone(many[:r.outside]), s)...), r.want)
		}
	}
	// what is within a statement that has nothing within it is not looked at
	odd := y
	odd.Then, odd.Else = slices.Repeat(list(y), 20001), list(nested(y, 500, yes))
	refused(t, of(odd), api.OK)
	odd.Form = 4
	refused(t, of(odd), api.ErrForm)
	refused(t, of(make([]api.Stmt, 20000)...), api.ErrForm)
	refused(t, of(make([]api.Stmt, 20001)...), api.ErrLong)
}

// noForms are numbers that are no form of a statement.
func noForms() []int { return []int{0, -1, api.SIf + 1, math.MinInt, math.MaxInt} }

func TestP1701LongExpressions(t *testing.T) {
	of := func(e api.CExp) []api.Step {
		long := step("x.i8 b.bool", "y.i8", "", "m.i8.0", set("y", e))
		kept := step("x.i8 b.bool", "y.i8", "", "m.i8.0", store("m", e))
		within := step("x.i8 b.bool", "y.i8", "", "m.i8.0", fork(ref("b"), nil, list(fork(ref("b"), list(set("y", e)), nil))))
		return []api.Step{long, kept, within}
	}
	for _, r := range []struct {
		e    api.CExp
		want api.Errno
	}{
		{chain(400), api.OK}, {chain(401), api.ErrLong}, {bin(api.OpOr, ref("x"), chain(399)), api.OK}, {bin(api.OpOr, ref("x"), chain(400)), api.ErrLong}, {bin(api.OpOr, chain(400), ref("x")), api.ErrLong}, {chain(1 << 16), api.ErrLong},
		{wide(1999), api.OK}, {un(api.OpNot, wide(1999)), api.OK}, {wide(2001), api.ErrLong}, {un(api.OpNot, un(api.OpNot, wide(1999))), api.ErrLong}, {choose(ref("b"), wide(999), wide(997)), api.OK}, {choose(ref("b"), wide(999), wide(999)), api.OK}, {choose(ref("b"), wide(1001), wide(999)), api.ErrLong},
	} {
		for _, s := range of(r.e) {
			refused(t, s, r.want)
		}
	}
	if n := len(inner(wide(1999))); n != 1999 {
		t.Fatal(n)
	}
	// a condition
	for _, r := range []struct {
		deep int
		want api.Errno
	}{{399, api.OK}, {400, api.ErrLong}} {
		refused(t, step("x.i8 b.bool", "", "", "", fork(bin(api.OpEq, ref("x"), chain(r.deep)), nil, nil)), r.want)
	}
	// a statement of no form has an expression, too
	for _, form := range noForms() {
		for _, r := range []struct {
			e    api.CExp
			want api.Errno
		}{
			{chain(400), api.ErrForm}, {chain(401), api.ErrLong}, {un(api.OpNot, wide(1999)), api.ErrForm}, {wide(2001), api.ErrLong}, {api.CExp{Form: 77, Kids: make([]api.CExp, 1999)}, api.ErrForm}, {api.CExp{Form: 77, Kids: make([]api.CExp, 2000)}, api.ErrLong},
		} {
			odd := api.Stmt{Form: form, Name: "y", E: r.e}
			refused(t, step("x.i8 b.bool", "y.i8", "", "", odd), r.want)
			refused(t, step("x.i8 b.bool", "y.i8", "", "", set("y", ref("x")), fork(ref("b"), nil, list(fork(ref("b"), list(odd), nil)))), r.want)
		}
	}
	// each has its own bounds
	refused(t, step("x.i8", "y.i8", "", "", slices.Repeat(list(set("y", un(api.OpNot, wide(1999)))), 500)...), api.OK)
	// an expression within itself, statements within themselves
	kids := make([]api.CExp, 2)
	kids[0], kids[1] = un(api.OpNot, ref("x")), api.CExp{Form: api.EBin, Sub: api.OpOr, Kids: kids}
	kids[0].Kids = kids
	refused(t, step("x.i8", "y.i8", "", "", set("y", kids[0])), api.ErrLong)
	body := make([]api.Stmt, 2)
	body[0], body[1] = fork(ref("b"), body, body), fork(ref("b"), body, nil)
	refused(t, step("b.bool", "", "", "", body...), api.ErrLong)
}

func TestP1701LongNames(t *testing.T) {
	for _, r := range []struct {
		ins, outs, more, kept int
		want                  api.Errno
	}{
		{8000, 0, 0, 0, api.OK}, {0, 8000, 0, 0, api.OK}, {0, 0, 8000, 0, api.OK}, {0, 0, 0, 8000, api.OK}, {8001, 0, 0, 0, api.ErrLong}, {0, 8001, 0, 0, api.ErrLong}, {0, 0, 8001, 0, api.ErrLong}, {0, 0, 0, 8001, api.ErrLong}, {2000, 2000, 2000, 2000, api.OK}, {2001, 2000, 2000, 2000, api.ErrLong}, {2000, 2001, 2000, 2000, api.ErrLong}, {2000, 2000, 2001, 2000, api.ErrLong}, {2000, 2000, 2000, 2001, api.ErrLong},
	} {
		s := api.Step{Ins: numbered("x", r.ins), Outs: numbered("y", r.outs), Vars: numbered("v", r.more)}
		for _, v := range numbered("c", r.kept) {
			s.Cells = append(s.Cells, api.Cell{Name: v.Name, Kind: v.Kind})
		}
		refused(t, s, r.want)
	}
}

// TestP1701Rules has a row or more for each thing that may be wrong, and those next to it that are right.
func TestP1701Rules(t *testing.T) {
	x, b, m, y := ref("x"), ref("b"), ref("m"), ref("y")
	of := func(body ...api.Stmt) api.Step {
		return step("x.i8 b.bool", "y.i8 z.bool", "v.i8 w.bool", "m.i8.3 n.bool.1", body...)
	}
	one := func(e api.CExp) api.Step { return of(set("y", e)) }
	two := func(e api.CExp) api.Step { return of(set("z", e)) }
	kids := func(form int, list ...api.CExp) api.Step {
		return two(api.CExp{Form: form, Sub: api.OpOr, Kind: api.Bool, Name: "b", Kids: list})
	}
	within := func(s api.Stmt) api.Step { return of(fork(b, list(fork(b, nil, list(s))), nil)) }
	for _, r := range []struct {
		want api.Errno
		list []api.Step
	}{
		{api.OK, []api.Step{{}, of(), one(x), one(m), one(y), one(ref("v")), of(set("v", x)), of(store("m", x)), of(store("m", m)), of(fork(b, nil, nil)), of(fork(ref("n"), nil, nil)), of(fork(ref("z"), nil, nil)), of(fork(lit(api.Bool, 1), nil, nil)), two(un(api.OpNot, b)), kids(api.EBin, b, b), kids(api.EIf, b, b, b), kids(api.ECast, x), kids(api.ECast, b), kids(api.ELit), kids(api.EVar), within(set("y", x)), step("", "y.u64", "", "m.u64.-1", set("y", lit(api.U64, -1))), step("", ".bool", "", "", set("", ref("")), fork(ref(""), nil, nil))}},
		{api.ErrTwice, []api.Step{step("x.i8 x.i8", "", "", ""), step("", "x.i8 x.i8", "", ""), step("", "", "x.i8 x.bool", ""), step("", "", "", "x.i8.0 x.i8.0"), step("x.i8", "x.i8", "", ""), step("x.i8", "", "x.i8", ""), step("x.i8", "", "", "x.i8.0"), step("", "x.i8", "x.i8", ""), step("", "x.i8", "", "x.i8.0"), step("", "", "x.i8", "x.i8.0"), step(".i8", ".i8", "", "")}},
		{api.ErrType, []api.Step{step("x.none", "", "", ""), step("", "x.none", "", ""), step("", "", "x.none", ""), step("", "", "", "x.none.0"), {Vars: []api.CVar{{Name: "v", Kind: 10}}}, {Vars: []api.CVar{{Name: "v", Kind: -1}}}, {Cells: []api.Cell{{Name: "v", Kind: math.MaxInt}}}, {Cells: []api.Cell{{Name: "v", Kind: math.MinInt, Init: 7}}}}},
		{api.ErrForm, []api.Step{of(api.Stmt{}), of(api.Stmt{Form: 4, Name: "y", E: x}), of(api.Stmt{Form: -1, Name: "y", E: x}), of(api.Stmt{Form: math.MaxInt}), of(api.Stmt{Form: math.MinInt}), within(api.Stmt{Form: 4, Name: "y", E: x}), one(api.CExp{}), one(api.CExp{Form: -1}), one(api.CExp{Form: 12}), one(api.CExp{Form: math.MaxInt}), one(when(x, "b", 1)), one(when(x, "b", 0)), one(merge("b", x, x)), one(un(api.OpNeg, merge("b", x, x))), one(api.CExp{Form: api.EPre, Kids: []api.CExp{x}}), one(api.CExp{Form: api.EArrow, Kids: []api.CExp{x, x}}), one(api.CExp{Form: api.EFby, Kids: []api.CExp{x, x}}), one(api.CExp{Form: api.ETick}), within(set("y", when(x, "b", 1))), of(fork(merge("b", b, b), nil, nil)),
			kids(api.ELit, b), kids(api.EVar, b), kids(api.EUn), kids(api.EUn, b, b), kids(api.EBin, b), kids(api.EBin, b, b, b), kids(api.EIf, b, b), kids(api.EIf, b, b, b, b), kids(api.ECast), kids(api.ECast, b, b), kids(api.EBin, b, kidless(api.EUn)),
			one(lit(api.I8, 200)), one(lit(0, 0)), one(lit(10, 0)), two(lit(api.Bool, -1)), one(un(api.OpNot, lit(api.U8, 256))), of(fork(lit(api.Bool, 2), nil, nil)), of(store("m", lit(api.I8, 128))), step("", "", "", "m.i8.128"), step("", "", "", "m.bool.2"), step("", "", "", "m.u8.-1"), step("", "", "", "a.i8.0 m.u16.65536")}},
		{api.ErrName, []api.Step{one(ref("q")), one(ref("")), one(un(api.OpNot, ref("q"))), one(bin(api.OpAdd, x, ref("q"))), of(store("m", ref("q"))), of(fork(ref("q"), nil, nil)), within(set("y", ref("q"))), of(set("q", x)), of(set("", x)), of(store("q", x)), of(set("x", x)), of(set("m", x)), of(store("x", x)), of(store("y", x)), of(store("v", x)), within(set("x", x)), within(store("y", x)), within(set("m", x))}},
		{api.ErrType, []api.Step{one(un(api.OpNeg, b)), one(un(api.OpImp, x)), one(un(0, x)), two(un(api.OpNeg, b)), one(bin(api.OpImp, x, x)), two(bin(api.OpAdd, b, b)), two(bin(api.OpLt, b, b)), one(bin(api.OpNot, x, x)), one(bin(api.OpAdd, x, lit(api.U8, 1))), two(bin(api.OpEq, b, x)), one(bin(api.OpEq, x, x)), two(bin(api.OpOr, x, x)), one(bin(math.MaxInt, x, x)), one(un(math.MinInt, x)),
			one(choose(x, x, x)), one(choose(b, x, b)), one(choose(b, b, x)), two(choose(b, x, x)), one(cast(api.I16, x)), one(cast(0, x)), one(cast(api.I8, cast(0, x))), one(cast(api.I8, cast(10, x))), one(choose(b, cast(0, x), cast(0, x))), one(b), two(x), one(lit(api.U8, 1)), one(ref("n")), two(m), one(cast(api.I8, un(api.OpNeg, b))),
			of(set("v", b)), of(set("w", x)), of(store("m", b)), of(store("n", x)), of(fork(x, nil, nil)), of(fork(m, nil, nil)), of(fork(lit(api.I8, 1), nil, nil)), of(fork(un(api.OpNeg, b), nil, nil)), within(set("y", b)), within(store("n", m)), within(fork(x, nil, nil))}},
	} {
		for _, s := range r.list {
			refused(t, s, r.want)
		}
	}
}

func kidless(form int) api.CExp { return api.CExp{Form: form, Sub: api.OpNot} }

// TestP1701Order: of two things that are wrong the one is told that comes first.
func TestP1701Order(t *testing.T) {
	x := ref("x")
	wrong := []struct {
		what api.Errno
		more string
		kept string
		body []api.Stmt
	}{
		{api.ErrLong, "", "", list(set("y", chain(401)))},
		{api.ErrLong, "", "", list(nested(set("y", x), 401, func(int) bool { return true }))},
		{api.ErrLong, "", "", list(api.Stmt{Form: 9, Name: "y", E: chain(401)})},
		{api.ErrTwice, "two.i8 two.i8", "", nil},
		{api.ErrTwice, "three.i8", "three.i8.0", nil},
		{api.ErrType, "kind.none", "", nil},
		{api.ErrType, "", "cell.none.0", nil},
		{api.ErrForm, "", "", list(api.Stmt{Form: 9, Name: "y"})},
		{api.ErrForm, "", "", list(set("y", when(x, "b", 1)))},
		{api.ErrForm, "", "init.i8.128", nil},
		{api.ErrName, "", "", list(set("y", ref("nobody")))},
		{api.ErrName, "", "", list(set("x", x))},
		{api.ErrType, "", "", list(set("y", ref("b")))},
		{api.ErrType, "", "", list(fork(x, nil, nil))},
		{api.OK, "", "", nil},
	}
	for i, one := range wrong {
		for _, other := range wrong[i+1:] {
			for _, pair := range [][2]int{{0, 1}, {1, 0}} {
				both := []string{one.more + " " + other.more, other.more + " " + one.more}
				kept := []string{one.kept + " " + other.kept, other.kept + " " + one.kept}
				body := [][]api.Stmt{slices.Concat(one.body, other.body), slices.Concat(other.body, one.body)}
				refused(t, step("x.i8 b.bool", "y.i8", both[pair[0]], kept[pair[1]], body[pair[0]]...), one.what)
				refused(t, step("x.i8 b.bool", "y.i8", both[pair[0]], kept[pair[1]], fork(ref("b"), nil, body[pair[1]])), one.what)
			}
		}
	}
	// in one statement
	refused(t, step("x.i8 b.bool", "y.i8", "", "", set("y", bin(api.OpAdd, lit(0, 0), ref("n")))), api.ErrForm)
	refused(t, step("x.i8 b.bool", "y.i8", "", "", set("n", bin(api.OpAdd, x, ref("b")))), api.ErrName)
	refused(t, step("x.i8 b.bool", "y.i8", "", "", set("x", lit(api.I8, 200))), api.ErrForm)
	refused(t, step("x.i8 b.bool", "y.i8", "", "", fork(x, list(set("y", ref("n"))), nil)), api.ErrName)
	refused(t, step("x.i8 b.bool", "y.i8", "", "", fork(ref("n"), nil, list(set("y", api.CExp{})))), api.ErrForm)
}

// TestP1701Clocks: clocks mean nothing.
func TestP1701Clocks(t *testing.T) {
	s := step("x.i8.b b.bool", "y.i8.b.!nobody", "v.i8.x.y.v", "", set("v", ref("x")), set("y", ref("v")))
	tells(t, s, "5,0 6,1 > 5 6")
}

func TestSize(t *testing.T) {
	x := ref("x")
	for _, r := range []struct {
		body []api.Stmt
		want int
	}{
		{nil, 0}, {list(set("y", x)), 2}, {list(set("y", x), store("m", bin(api.OpAdd, x, x))), 6}, {list(fork(x, nil, nil)), 2}, {list(fork(x, list(set("y", x)), nil)), 4}, {list(fork(x, nil, list(set("y", x)))), 4}, {list(fork(un(api.OpNot, x), list(set("y", choose(x, x, un(api.OpNot, x))), fork(x, list(store("m", x)), nil)), list(set("y", cast(api.I8, x))))), 16},
		{slices.Repeat(list(set("y", wide(1999))), 20000), 20000 * 2000}, {list(nested(set("y", chain(400)), 400, func(i int) bool { return i%2 == 0 })), 399*2 + 401}, {list(set("y", chain(1<<16-1))), 1 << 16},
		// what a form does not have does not count
		{list(api.Stmt{Form: api.SSet, Name: "y", E: x, Then: list(set("y", x)), Else: list(set("y", x))}), 2}, {list(api.Stmt{Form: api.SStore, Name: "y", E: x, Then: list(set("y", x)), Else: list(set("y", x))}), 2},
	} {
		if got := obc.Size(api.Step{Body: r.body}); got != r.want {
			t.Errorf("%.300s: %d, not %d", show(api.Step{Body: r.body}), got, r.want)
		}
	}
	// a statement of no form has an expression, too, but no other statements within it
	for _, form := range noForms() {
		odd := api.Stmt{Form: form, Name: "y", E: bin(api.OpAdd, x, x), Then: list(set("y", x)), Else: list(set("y", x))}
		for _, r := range []struct {
			body []api.Stmt
			want int
		}{{list(api.Stmt{Form: form}), 2}, {list(odd), 4}, {list(odd, set("y", x)), 6}, {list(fork(x, list(odd), list(odd))), 10}} {
			if got := obc.Size(api.Step{Body: r.body}); got != r.want {
				t.Errorf("%s: %d, not %d", show(api.Step{Body: r.body}), got, r.want)
			}
		}
	}
	if got := obc.Size(step("x.i8", "y.i8", "v.i8", "m.i8.0")); got != 0 {
		t.Error(got)
	}
	// what is within itself has no size, but is told of
	kids := make([]api.CExp, 2)
	kids[0] = api.CExp{Form: api.EBin, Kids: kids}
	kids[1] = kids[0]
	body := make([]api.Stmt, 2)
	body[0], body[1] = fork(kids[0], body, body), set("y", kids[1])
	obc.Size(api.Step{Body: body})
}
