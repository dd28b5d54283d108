package code_test

import (
	"math"
	"slices"
	"testing"

	"metronome/api"
	"metronome/code"
)

func push(n, kind int) api.Ins  { return api.Ins{Op: api.IPush, N: n, K: kind} }
func load(slot int) api.Ins     { return api.Ins{Op: api.ILoad, N: slot} }
func save(slot int) api.Ins     { return api.Ins{Op: api.ISave, N: slot} }
func un(op, kind int) api.Ins   { return api.Ins{Op: api.IUn, N: op, K: kind} }
func bin(op, kind int) api.Ins  { return api.Ins{Op: api.IBin, N: op, K: kind} }
func cast(from, to int) api.Ins { return api.Ins{Op: api.ICast, N: from, K: to} }
func jump(n int) api.Ins        { return api.Ins{Op: api.IJump, N: n} }
func unless(n int) api.Ins      { return api.Ins{Op: api.IFalse, N: n} }
func end() api.Ins              { return api.Ins{Op: api.IEnd} }

// small is the chapter's example.
func small() api.Code {
	return api.Code{Kinds: []int{api.I8, api.I8}, Ins: 1, Outs: 1, Stack: 2, Body: []api.Ins{load(0), push(1, api.I8), bin(api.OpAdd, api.I8), save(1), end()}}
}

// rich has slots of all sorts: inputs 0 (bool), 1 (i8), outputs 2 (i8), 3 (bool), cells 4 (u64), 5 (bool), variables 6 (i8), 7 (bool), 8 (u64).
func rich(stack int, body ...api.Ins) api.Code {
	return api.Code{Kinds: []int{api.Bool, api.I8, api.I8, api.Bool, api.U64, api.Bool, api.I8, api.Bool, api.U64}, Ins: 2, Outs: 2, Cells: 2, Init: []int{-1, 1}, Stack: stack, Body: body}
}

// turned is code of which one thing was changed.
func turned(c api.Code, turn func(*api.Code)) api.Code {
	turn(&c)
	return c
}

// ends is a body of n instructions.
func ends(n int) []api.Ins { return slices.Repeat([]api.Ins{end()}, n) }

func TestP1901Example(t *testing.T) {
	if e := code.Check(small()); e != api.OK {
		t.Error(e)
	}
	if e := code.Check(turned(small(), func(c *api.Code) { c.Stack = 1 })); e != api.ErrCode {
		t.Error(e)
	}
}

// longs are changes by which code that Check takes becomes too long.
func longs() []func(*api.Code) {
	return []func(*api.Code){
		func(c *api.Code) { c.Body = ends(api.MaxCode + 1) },
		func(c *api.Code) { c.Body = make([]api.Ins, api.MaxCode+1) },
		func(c *api.Code) { c.Body = append(slices.Clone(c.Body), ends(api.MaxCode+1)...) },
		func(c *api.Code) { c.Kinds = append(c.Kinds, slices.Repeat([]int{api.I8}, api.MaxCells)...) },
		func(c *api.Code) { c.Kinds = make([]int, api.MaxCells+1) },
		func(c *api.Code) { c.Stack = api.MaxStack + 1 },
		func(c *api.Code) { c.Stack = math.MaxInt },
	}
}

// forms are changes by which it gets another form.
func forms() []func(*api.Code) {
	counts := []func(*api.Code) *int{func(c *api.Code) *int { return &c.Ins }, func(c *api.Code) *int { return &c.Outs }, func(c *api.Code) *int { return &c.Cells }}
	list := []func(*api.Code){
		func(c *api.Code) { c.Stack = -1 },
		func(c *api.Code) { c.Stack = math.MinInt },
		func(c *api.Code) { c.Ins, c.Outs, c.Cells, c.Init = 0, 0, len(c.Kinds)+1, make([]int, len(c.Kinds)+1) },
		func(c *api.Code) { c.Ins, c.Outs, c.Cells = math.MaxInt, math.MaxInt, 2 }, // the sum wraps round to 0
		func(c *api.Code) { c.Ins, c.Outs, c.Cells = math.MinInt, math.MinInt, 0 },
		func(c *api.Code) { c.Ins, c.Outs = 1<<62, 1<<62 },
		func(c *api.Code) { c.Ins, c.Outs = -1, c.Outs+1 },
		func(c *api.Code) { c.Init = append(slices.Clone(c.Init), 0) },
		func(c *api.Code) { c.Init = make([]int, 9000) },
		func(c *api.Code) { c.Body = nil },
		func(c *api.Code) { c.Body = []api.Ins{} },
		func(c *api.Code) { c.Body = c.Body[:len(c.Body)-1] },
		func(c *api.Code) { c.Body = append(slices.Clone(c.Body), jump(0)) },
		func(c *api.Code) { c.Body = append(slices.Clone(c.Body), api.Ins{}) },
	}
	for _, count := range counts {
		for _, n := range []int{-1, math.MinInt, math.MaxInt, 1 << 62, 8001} {
			list = append(list, func(c *api.Code) { *count(c) = n })
		}
		list = append(list, func(c *api.Code) { *count(c) = len(c.Kinds) + 1 })
	}
	for _, n := range []int{0, -1, 10, 256 + api.I8, math.MinInt, math.MaxInt} {
		list = append(list, func(c *api.Code) { c.Kinds[0] = n }, func(c *api.Code) { c.Kinds[len(c.Kinds)-1] = n })
		list = append(list, func(c *api.Code) { c.Body[0].Op = n }, func(c *api.Code) { c.Body[len(c.Body)-2].Op = n }, func(c *api.Code) { c.Body[len(c.Body)-1].Op = n })
		list = append(list, func(c *api.Code) { c.Body = []api.Ins{jump(1), {Op: n}, end()} }) // not reached
	}
	return list
}

// plain is code that Check takes, which has a variable at the end.
func plain() api.Code { return rich(2, load(1), save(2), push(1, api.Bool), save(3), end()) }

// TestP1901Long: what is too long is told ahead of a wrong form and a wrong instruction.
func TestP1901Long(t *testing.T) {
	for i, long := range longs() {
		if e := code.Check(turned(plain(), long)); e != api.ErrLong {
			t.Errorf("%d: error %d", i, e)
		}
		for j, form := range forms() {
			if e := code.Check(turned(turned(plain(), form), long)); e != api.ErrLong {
				t.Errorf("%d, %d: error %d", i, j, e)
			}
		}
	}
	c := turned(plain(), func(c *api.Code) { c.Body[0], c.Stack = load(9), 65 })
	if e := code.Check(c); e != api.ErrLong {
		t.Errorf("error %d", e)
	}
}

// TestP1901Form: a wrong form is told ahead of a wrong instruction.
func TestP1901Form(t *testing.T) {
	if e := code.Check(plain()); e != api.OK {
		t.Errorf("error %d", e)
	}
	for i, form := range forms() {
		for _, wrong := range []api.Ins{load(1), load(9), un(99, 99), unless(-1)} {
			c := plain()
			c.Body[0] = wrong
			form(&c)
			if e := code.Check(c); e != api.ErrForm {
				t.Errorf("%d, %v: error %d", i, wrong, e)
			}
		}
	}
}

// TestP1901Counts: all ways to cut three slots into inputs, outputs, cells and variables.
func TestP1901Counts(t *testing.T) {
	for ins := -1; ins <= 4; ins++ {
		for outs := -1; outs <= 4; outs++ {
			for cells := -1; cells <= 4; cells++ {
				want := api.ErrForm
				if min(ins, outs, cells) >= 0 && ins+outs+cells <= 3 {
					want = api.OK
				}
				c := api.Code{Kinds: []int{1, 2, 3}, Ins: ins, Outs: outs, Cells: cells, Init: make([]int, max(cells, 0)), Body: ends(1)}
				if e := code.Check(c); e != want {
					t.Errorf("%d, %d, %d: error %d", ins, outs, cells, e)
				}
			}
		}
	}
}

// TestP1901Inits: a cell's value is one of the kind of the cell's slot.
func TestP1901Inits(t *testing.T) {
	for kind := api.Bool; kind <= api.U64; kind++ {
		lists := map[api.Errno][]int{api.OK: {least()[kind], most()[kind], 0, 1}}
		if kind != api.I64 && kind != api.U64 {
			lists[api.ErrForm] = []int{least()[kind] - 1, most()[kind] + 1, math.MinInt, math.MaxInt}
		}
		for want, list := range lists {
			for _, n := range list {
				other := api.U64 + 1 - kind // so that no neighbour's kind will do
				c := api.Code{Kinds: []int{other, other, kind, kind, other}, Ins: 1, Outs: 1, Cells: 2, Init: []int{0, n}, Body: ends(1)}
				if e := code.Check(c); e != want {
					t.Errorf("%d of %d: error %d", n, kind, e)
				}
				c.Init = []int{n, 0}
				if e := code.Check(c); e != want {
					t.Errorf("%d of %d: error %d", n, kind, e)
				}
			}
		}
	}
}

// TestP1901Edges: just as long as may be; as little as may be.
func TestP1901Edges(t *testing.T) {
	for i, c := range []api.Code{
		{Body: ends(1)}, {Kinds: []int{}, Init: []int{}, Body: ends(2)}, {Body: ends(api.MaxCode)}, {Stack: api.MaxStack, Body: ends(1)},
		{Kinds: slices.Repeat([]int{api.U64}, api.MaxCells), Body: ends(1)}, {Kinds: slices.Repeat([]int{api.U64}, api.MaxCells), Ins: api.MaxCells, Body: ends(1)}, {Kinds: slices.Repeat([]int{api.U64}, api.MaxCells), Outs: api.MaxCells, Body: ends(1)},
		{Kinds: slices.Repeat([]int{api.U64}, api.MaxCells), Cells: api.MaxCells, Init: slices.Repeat([]int{-1}, api.MaxCells), Body: ends(1)},
	} {
		if e := code.Check(c); e != api.OK {
			t.Errorf("%d: error %d", i, e)
		}
	}
}

// TestP1901Rows: bodies that are right with a stack of that height or more, not with a lower one.
func TestP1901Rows(t *testing.T) {
	deep := slices.Repeat([]api.Ins{load(1)}, api.MaxStack)
	for i, x := range []struct {
		high int
		body []api.Ins
	}{
		{0, []api.Ins{end()}}, {0, []api.Ins{jump(0), end()}}, {0, []api.Ins{jump(1), push(1, 99), end()}}, {0, []api.Ins{end(), un(99, 99), load(-5), end()}},
		{1, []api.Ins{load(0), save(7), end()}}, {1, []api.Ins{load(1), save(2), end()}}, {1, []api.Ins{load(2), save(6), end()}}, {1, []api.Ins{load(3), save(5), end()}}, {1, []api.Ins{load(4), save(8), end()}}, {1, []api.Ins{load(8), save(4), end()}},
		{2, []api.Ins{load(0), load(1), save(2), save(3), end()}}, {1, []api.Ins{load(1), cast(api.I8, api.Bool), save(3), end()}}, {1, []api.Ins{load(1), cast(api.I8, api.I8), save(2), end()}},
		{1, []api.Ins{load(0), un(api.OpNot, api.Bool), save(3), end()}}, {1, []api.Ins{load(1), un(api.OpNeg, api.I8), save(2), end()}}, {2, []api.Ins{load(1), load(2), bin(api.OpLe, api.I8), save(3), end()}},
		{1, []api.Ins{load(0), unless(0), end()}}, {1, []api.Ins{load(0), unless(1), end(), end()}}, {1, []api.Ins{load(0), unless(2), load(1), save(2), end()}},
		// the stack is not empty at a jump, and where ways meet
		{2, []api.Ins{load(1), load(0), unless(2), load(1), jump(1), load(2), bin(api.OpAdd, api.I8), save(2), end()}},
		{1, []api.Ins{load(0), unless(3), load(1), save(2), end(), load(1), save(6), end()}},
		{2, []api.Ins{load(0), load(0), unless(0), unless(0), end()}},
		// what stands behind a jump or an end is reached by a jump alone, with the stack from there
		{1, []api.Ins{load(1), jump(1), end(), save(2), end()}},
		{1, []api.Ins{load(0), unless(2), load(1), jump(1), load(2), save(6), end()}},
		{1, []api.Ins{load(0), unless(3), push(3, api.I8), save(2), jump(1), jump(0), end()}},
		{1, []api.Ins{load(0), unless(1), end(), jump(1), load(-1), end()}},
		// a way out of what is not reached is none
		{1, []api.Ins{load(1), jump(1), jump(1), save(2), end()}}, {1, []api.Ins{load(1), jump(2), load(0), unless(0), save(2), end()}}, {0, []api.Ins{jump(1), load(0), end()}},
		{api.MaxStack, append(slices.Clone(deep), append(slices.Repeat([]api.Ins{save(2)}, api.MaxStack), end())...)},
		{api.MaxStack, append(slices.Clone(deep), append(slices.Repeat([]api.Ins{bin(api.OpAdd, api.I8)}, api.MaxStack-1), save(2), end())...)},
	} {
		for high := range api.MaxStack + 1 {
			want := api.OK
			if high < x.high {
				want = api.ErrCode
			}
			if e := code.Check(rich(high, x.body...)); e != want {
				t.Errorf("%d, stack %d: error %d", i, high, e)
			}
		}
	}
}

func TestP1901Wrong(t *testing.T) {
	far := []int{-1, -2, 256, 1 << 32, math.MinInt, math.MaxInt, math.MaxInt - 1, 1 << 62}
	bodies := [][]api.Ins{
		{push(2, api.Bool), save(3), end()}, {push(128, api.I8), save(2), end()}, {push(-129, api.I8), save(2), end()}, {push(0, 0), end()}, {push(0, 10), end()}, {push(-1, api.U32), cast(api.U32, api.I8), save(2), end()},
		{load(9), end()}, {load(1), save(9), end()}, {load(0), save(0), end()}, {load(1), save(1), end()}, {load(0), save(1), end()},
		{save(2), end()}, {load(0), save(2), end()}, {load(1), save(3), end()}, {load(1), save(4), end()}, {load(1), save(6), save(6), end()},
		// values of another kind, too few, operations of the other sort
		{un(api.OpNot, api.Bool), save(3), end()}, {load(1), un(api.OpNot, api.Bool), save(3), end()}, {load(0), un(api.OpNeg, api.Bool), save(3), end()}, {load(0), un(api.OpNot, api.I8), save(2), end()}, {load(1), un(api.OpAdd, api.I8), save(2), end()}, {load(1), load(1), un(api.OpAdd, api.I8), save(2), end()}, {load(1), un(0, api.I8), save(2), end()},
		{bin(api.OpAdd, api.I8), save(2), end()}, {load(1), bin(api.OpAdd, api.I8), save(2), end()}, {load(1), load(0), bin(api.OpAdd, api.I8), save(2), end()}, {load(0), load(1), bin(api.OpAdd, api.I8), save(2), end()}, {load(0), load(0), bin(api.OpAdd, api.Bool), save(3), end()}, {load(1), load(1), bin(api.OpImp, api.I8), save(2), end()}, {load(1), load(1), bin(api.OpNot, api.I8), save(2), end()}, {load(1), bin(api.OpNeg, api.I8), save(2), end()}, {load(1), load(1), bin(20, api.I8), save(2), end()}, {load(1), load(1), bin(api.OpAdd, api.I16), save(2), end()},
		{load(1), load(1), bin(api.OpEq, api.I8), save(2), end()}, {load(0), load(0), bin(api.OpLt, api.Bool), save(3), end()},
		{cast(api.I8, api.Bool), save(3), end()}, {load(1), cast(api.Bool, api.I8), save(2), end()}, {load(1), cast(api.I8, api.Bool), save(2), end()}, {load(1), cast(0, api.I8), save(2), end()}, {load(1), cast(api.I8, 0), end()}, {load(1), cast(api.I8, 10), end()}, {load(1), cast(api.I8, 0), cast(0, api.I8), save(2), end()}, {load(1), cast(api.I8, 10), cast(10, api.I8), save(2), end()}, {cast(0, api.I8), save(2), end()},
		// jumps
		{jump(1), end()}, {jump(2), end()}, {load(0), unless(1), end()}, {load(0), unless(2), end()}, {unless(0), end()}, {load(1), unless(0), end()}, {load(8), unless(0), end()},
		// the stack is not empty at the end
		{load(0), end()}, {load(0), end(), save(3), end()}, {load(0), unless(1), end(), load(1), end()}, {load(1), load(0), unless(1), save(2), end()},
		// ways that differ: in height, in a kind on top, in a kind below, in the order
		{load(0), unless(1), load(1), save(2), end()}, {load(1), load(0), unless(1), end(), save(2), end()}, {load(0), unless(2), load(1), jump(1), load(0), save(2), end()}, {load(0), unless(2), load(0), jump(1), load(1), save(2), end()}, {load(0), unless(2), load(0), jump(1), load(1), jump(0), end()},
		{load(0), unless(3), load(1), load(0), jump(2), load(0), load(0), save(3), save(2), end()}, {load(0), unless(3), load(1), load(0), jump(2), load(0), load(1), save(3), save(2), end()},
		// the first way says it, though a later one would do
		{load(0), unless(1), jump(1), load(1), save(2), end()},
		// the later way is wrong behind a stretch that is not reached
		{load(0), unless(3), jump(3), un(99, 99), un(99, 99), load(1), end()},
		// fields that are not there
		{{Op: api.ILoad, N: 1, K: api.I8}, save(2), end()}, {load(1), {Op: api.ISave, N: 2, K: api.I8}, end()}, {{Op: api.IJump, K: 1}, end()}, {load(0), {Op: api.IFalse, K: 1}, end()}, {{Op: api.IEnd, N: 1}}, {{Op: api.IEnd, K: 1}}, {{Op: api.IEnd, N: -1, K: -1}}, {{Op: api.IEnd, N: math.MinInt}}, {{Op: api.IEnd, K: math.MaxInt}}, {{Op: api.IEnd, K: 1}, end()},
		{load(0), unless(0), {Op: api.IEnd, N: 1}},
	}
	for _, n := range far {
		bodies = append(bodies, []api.Ins{push(n, api.Bool), save(3), end()}, []api.Ins{push(0, n), end()}, []api.Ins{load(n), end()}, []api.Ins{load(1), save(n), end()}, []api.Ins{load(1), un(n, api.I8), save(2), end()}, []api.Ins{load(1), load(1), bin(n, api.I8), save(2), end()}, []api.Ins{load(1), un(api.OpNot, n), save(2), end()}, []api.Ins{load(1), load(1), bin(api.OpAdd, n), save(2), end()},
			[]api.Ins{load(1), cast(n, api.I8), save(2), end()}, []api.Ins{load(1), cast(api.I8, n), save(2), end()}, []api.Ins{load(1), cast(api.I8, n), cast(n, api.I8), save(2), end()}, []api.Ins{load(1), cast(n+api.I8, api.I8), save(2), end()}, []api.Ins{load(1), cast(api.I8, n+api.I8), save(2), end()}, []api.Ins{jump(n), end()}, []api.Ins{load(0), unless(n), end()}, []api.Ins{{Op: api.IJump, K: n}, end()}, []api.Ins{{Op: api.ILoad, K: n}, save(3), end()})
	}
	for i, body := range bodies {
		if e := code.Check(rich(8, body...)); e != api.ErrCode {
			t.Errorf("%d, %v: error %d", i, body, e)
		}
	}
}

// TestP1901Last: the instruction that is wrong is the last but one of as many as may be.
func TestP1901Last(t *testing.T) {
	body := append(slices.Repeat([]api.Ins{load(1), save(2)}, api.MaxCode/2-1), jump(0), end())
	if e := code.Check(rich(1, body...)); e != api.OK {
		t.Errorf("error %d", e)
	}
	body[api.MaxCode-2].N = 1
	if e := code.Check(rich(1, body...)); e != api.ErrCode {
		t.Errorf("error %d", e)
	}
	body[api.MaxCode-2].N = 0
	body[0] = jump(api.MaxCode - 2)
	if e := code.Check(rich(0, body...)); e != api.OK {
		t.Errorf("error %d", e)
	}
	body[0] = jump(api.MaxCode - 1)
	if e := code.Check(rich(0, body...)); e != api.ErrCode {
		t.Errorf("error %d", e)
	}
}
