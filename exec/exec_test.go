package exec_test

import (
	"math"
	"slices"
	"testing"

	"metronome/api"
	"metronome/bv"
	"metronome/exec"
)

func push(n, kind int) api.Ins  { return api.Ins{Op: api.IPush, N: n, K: kind} }
func load(slot int) api.Ins     { return api.Ins{Op: api.ILoad, N: slot} }
func save(slot int) api.Ins     { return api.Ins{Op: api.ISave, N: slot} }
func un(op, kind int) api.Ins   { return api.Ins{Op: api.IUn, N: op, K: kind} }
func bin(op, kind int) api.Ins  { return api.Ins{Op: api.IBin, N: op, K: kind} }
func cast(from, to int) api.Ins { return api.Ins{Op: api.ICast, N: from, K: to} }
func jump(n int) api.Ins        { return api.Ins{Op: api.IJump, N: n} }
func unless(n int) api.Ins      { return api.Ins{Op: api.IFalse, N: n} }
func end() api.Ins              { return api.Ins{Op: api.IEnd} }

// small is the code of chapter 19.
func small() api.Code {
	return api.Code{Kinds: []int{api.I8, api.I8}, Ins: 1, Outs: 1, Stack: 2, Body: []api.Ins{load(0), push(1, api.I8), bin(api.OpAdd, api.I8), save(1), end()}}
}

// rich has slots of all sorts: inputs 0 (bool), 1 (i8), outputs 2 (i8), 3 (bool), cells 4 (u64), 5 (bool), variables 6 (i8), 7 (bool), 8 (u64).
func rich(body ...api.Ins) api.Code {
	return api.Code{Kinds: []int{api.Bool, api.I8, api.I8, api.Bool, api.U64, api.Bool, api.I8, api.Bool, api.U64}, Ins: 2, Outs: 2, Cells: 2, Init: []int{-1, 1}, Stack: 3, Body: append(body, end())}
}

// adder has one cell, at first 7, to which the input is added: the output is what it was ahead of that.
func adder() api.Code {
	return api.Code{Kinds: []int{api.I8, api.I8, api.I8}, Ins: 1, Outs: 1, Cells: 1, Init: []int{7}, Stack: 2, Body: []api.Ins{load(2), save(1), load(2), load(0), bin(api.OpAdd, api.I8), save(2), end()}}
}

func machine(t *testing.T, c api.Code) *exec.Machine {
	t.Helper()
	m, e := exec.New(c)
	if e != api.OK || m == nil {
		t.Fatalf("%+v: %v, error %d", c, m, e)
	}
	return m
}

// row is what a machine is asked, and what it answers.
type row struct {
	ins   []int
	outs  []int
	count int
	cells []int
}

// rows holds a machine of the code to what it is asked, one behind the other.
func rows(t *testing.T, c api.Code, list ...row) {
	t.Helper()
	m := machine(t, c)
	for i, r := range list {
		outs, count, e := m.Tick(r.ins)
		if e != api.OK || !slices.Equal(outs, r.outs) || count != r.count || !slices.Equal(m.Cells(), r.cells) {
			t.Errorf("%v, tick %d: %v, %d, error %d, cells %v", c.Body, i, outs, count, e, m.Cells())
		}
	}
}

func TestP2102Example(t *testing.T) {
	rows(t, small(), row{[]int{5}, []int{6}, 5, nil}, row{[]int{127}, []int{-128}, 5, nil})
}

// TestP2102Instructions: what each instruction does, and that all that is not told otherwise is 0 at each tick.
func TestP2102Instructions(t *testing.T) {
	nothing := []int{0, 0}
	first := []int{-1, 1}
	rows(t, rich(), row{[]int{1, 5}, nothing, 1, first}, row{[]int{0, -5}, nothing, 1, first})
	rows(t, rich(load(1), save(2), load(0), save(3)), row{[]int{1, 5}, []int{5, 1}, 5, first}, row{[]int{0, -128}, []int{-128, 0}, 5, first})
	rows(t, rich(push(-7, api.I8), save(2), push(1, api.Bool), save(3)), row{[]int{0, 0}, []int{-7, 1}, 5, first})
	// cells stay, variables and outputs don't
	rows(t, rich(load(5), save(3), push(0, api.Bool), save(5)), row{[]int{0, 0}, []int{0, 1}, 5, []int{-1, 0}}, row{[]int{0, 0}, nothing, 5, []int{-1, 0}})
	rows(t, rich(load(6), save(2), push(9, api.I8), save(6)), row{[]int{0, 0}, nothing, 5, first}, row{[]int{0, 0}, nothing, 5, first})
	rows(t, rich(load(2), load(1), bin(api.OpAdd, api.I8), save(2)), row{[]int{0, 3}, []int{3, 0}, 5, first}, row{[]int{0, 4}, []int{4, 0}, 5, first})
	rows(t, rich(load(4), push(1, api.U64), bin(api.OpAdd, api.U64), save(4)), row{[]int{0, 0}, nothing, 5, []int{0, 1}}, row{[]int{0, 0}, nothing, 5, []int{1, 1}})
	rows(t, rich(load(0), unless(2), load(1), save(2), load(2), push(3, api.I8), bin(api.OpEq, api.I8), save(3)), row{[]int{1, 3}, []int{3, 1}, 9, first}, row{[]int{0, 3}, nothing, 7, first})
	// the lower one is the first
	rows(t, rich(push(10, api.I8), load(1), bin(api.OpSub, api.I8), save(2), push(10, api.I8), load(1), bin(api.OpLt, api.I8), save(3)), row{[]int{0, 3}, []int{7, 0}, 9, first}, row{[]int{0, 30}, []int{-20, 1}, 9, first})
	rows(t, rich(push(1, api.I8), push(2, api.I8), push(3, api.I8), bin(api.OpSub, api.I8), bin(api.OpSub, api.I8), save(2)), row{[]int{0, 0}, []int{2, 0}, 7, first})
	// operations on one value, casts
	rows(t, rich(load(1), un(api.OpNeg, api.I8), un(api.OpNot, api.I8), save(2), load(0), un(api.OpNot, api.Bool), save(3)), row{[]int{0, 3}, []int{2, 1}, 8, first}, row{[]int{1, -128}, []int{127, 0}, 8, first})
	rows(t, rich(load(1), cast(api.I8, api.U64), save(4), load(4), cast(api.U64, api.Bool), save(3)), row{[]int{0, -1}, []int{0, 1}, 7, []int{-1, 1}}, row{[]int{0, 0}, nothing, 7, []int{0, 1}}, row{[]int{0, 5}, []int{0, 1}, 7, []int{5, 1}})
}

// TestP2102Jumps: which way is taken, and how many instructions it has.
func TestP2102Jumps(t *testing.T) {
	first := []int{-1, 1}
	one, two := push(1, api.I8), push(2, api.I8)
	rows(t, rich(jump(0)), row{[]int{0, 0}, []int{0, 0}, 2, first})
	rows(t, rich(jump(2), one, save(2)), row{[]int{0, 0}, []int{0, 0}, 2, first})
	rows(t, rich(one, jump(1), save(3), save(2)), row{[]int{0, 0}, []int{1, 0}, 4, first})
	rows(t, rich(load(0), unless(0)), row{[]int{0, 0}, []int{0, 0}, 3, first}, row{[]int{1, 0}, []int{0, 0}, 3, first})
	rows(t, rich(load(0), unless(3), one, save(2), jump(2), two, save(2)), row{[]int{0, 0}, []int{2, 0}, 5, first}, row{[]int{1, 0}, []int{1, 0}, 6, first})
	rows(t, rich(load(0), unless(2), one, jump(1), two, save(2)), row{[]int{0, 0}, []int{2, 0}, 5, first}, row{[]int{1, 0}, []int{1, 0}, 6, first})
	rows(t, rich(load(0), unless(3), one, save(2), end(), two, save(2)), row{[]int{0, 0}, []int{2, 0}, 5, first}, row{[]int{1, 0}, []int{1, 0}, 5, first})
	// what no way leads to may be anything
	rows(t, rich(jump(3), api.Ins{Op: api.ISave, N: -1, K: 7}, jump(math.MinInt), unless(math.MaxInt), one, save(2)), row{[]int{0, 0}, []int{1, 0}, 4, first})
}

// TestP2102Operations: each operation, of each kind, and each cast is bv's.
func TestP2102Operations(t *testing.T) {
	made := 0
	for of := api.Bool; of <= api.U64; of++ {
		m := newMaker(of)
		for n := -1; n <= 20; n++ { // an operation, or the kind that a cast is to
			for _, in := range []api.Ins{un(n, of), bin(n, of), cast(of, n)} {
				ask := func(a, b int) (int, int, bool) { return bv.Bin(n, of, a, b) }
				switch in.Op {
				case api.IUn:
					ask = func(_, b int) (int, int, bool) { r, ok := bv.Un(n, of, b); return r, of, ok }
				case api.ICast:
					ask = func(_, b int) (int, int, bool) { r, ok := bv.Cast(of, n, b); return r, n, ok }
				}
				_, to, ok := ask(0, 0)
				if !ok {
					continue
				}
				made++
				c := api.Code{Kinds: []int{of, of, to}, Ins: 2, Outs: 1, Stack: 2, Body: []api.Ins{load(0), load(1), in, save(2), end()}}
				if in.Op != api.IBin {
					c.Body = c.Body[1:]
				}
				for range 30 {
					ins := []int{m.value(of), m.value(of)}
					want, _, _ := ask(ins[0], ins[1])
					rows(t, c, row{ins, []int{want}, len(c.Body), nil})
				}
			}
		}
	}
	if made != 9+8+5*9+11*8+1+9*9 {
		t.Error(made)
	}
}

// TestP2102Refused: another number of values is told ahead of one that is none, and nothing has changed.
func TestP2102Refused(t *testing.T) {
	m := machine(t, adder())
	m.Tick([]int{1})
	for i, r := range []struct {
		ins []int
		e   api.Errno
	}{
		{nil, api.ErrCount}, {[]int{}, api.ErrCount}, {[]int{1, 2}, api.ErrCount}, {[]int{500, 2}, api.ErrCount}, {make([]int, 9000), api.ErrCount}, {[]int{128}, api.ErrArg}, {[]int{-129}, api.ErrArg}, {[]int{math.MaxInt}, api.ErrArg}, {[]int{math.MinInt}, api.ErrArg}, {[]int{256}, api.ErrArg},
	} {
		if outs, count, e := m.Tick(r.ins); e != r.e || outs != nil || count != 0 || !slices.Equal(m.Cells(), []int{8}) {
			t.Errorf("%d: %v, %d, error %d, cells %v", i, outs, count, e, m.Cells())
		}
	}
	if outs, count, e := m.Tick([]int{-128}); e != api.OK || !slices.Equal(outs, []int{8}) || count != 7 || !slices.Equal(m.Cells(), []int{-120}) {
		t.Errorf("%v, %d, error %d, cells %v", outs, count, e, m.Cells())
	}
}

// TestP2102Kinds: the values at the ends of each kind are taken, those beyond are not, at each place.
func TestP2102Kinds(t *testing.T) {
	least := [...]int{api.Bool: 0, api.I8: math.MinInt8, api.I16: math.MinInt16, api.I32: math.MinInt32, api.I64: math.MinInt64, api.U8: 0, api.U16: 0, api.U32: 0, api.U64: math.MinInt}
	most := [...]int{api.Bool: 1, api.I8: math.MaxInt8, api.I16: math.MaxInt16, api.I32: math.MaxInt32, api.I64: math.MaxInt64, api.U8: math.MaxUint8, api.U16: math.MaxUint16, api.U32: math.MaxUint32, api.U64: math.MaxInt}
	for kind := api.Bool; kind <= api.U64; kind++ {
		for place := range 3 {
			c := api.Code{Kinds: []int{api.I8, api.I8, api.I8, kind}, Ins: 3, Outs: 1, Stack: 1, Body: []api.Ins{load(place), save(3), end()}}
			c.Kinds[place] = kind
			m := machine(t, c)
			for _, r := range []struct {
				n int
				e api.Errno
			}{{least[kind], api.OK}, {most[kind], api.OK}, {0, api.OK}, {least[kind] - 1, api.ErrArg}, {most[kind] + 1, api.ErrArg}} {
				if bv.Width(kind) == 64 {
					r.e = api.OK
				}
				ins := []int{1, 2, 3}
				ins[place] = r.n
				var want []int
				if r.e == api.OK {
					want = []int{r.n}
				}
				if outs, _, e := m.Tick(ins); e != r.e || !slices.Equal(outs, want) {
					t.Errorf("kind %d, %v: %v, error %d", kind, ins, outs, e)
				}
			}
		}
	}
}

func TestP2103Reset(t *testing.T) {
	m := machine(t, adder())
	told := func(want ...int) {
		t.Helper()
		if cells := m.Cells(); !slices.Equal(cells, want) {
			t.Errorf("%v, not %v", cells, want)
		}
	}
	told(7)
	m.Reset()
	told(7)
	m.Tick([]int{3})
	told(10)
	m.Tick([]int{3})
	told(13)
	m.Tick([]int{300})
	told(13)
	m.Reset()
	told(7)
	if outs, count, e := m.Tick([]int{5}); e != api.OK || !slices.Equal(outs, []int{7}) || count != 7 {
		t.Errorf("%v, %d, error %d", outs, count, e)
	}
	told(12)
}

func TestP2103Run(t *testing.T) {
	wrong := adder()
	wrong.Stack = 1
	one := func(n int) [][]int { return slices.Repeat([][]int{{1}}, n) }
	for i, r := range []struct {
		c    api.Code
		ins  [][]int
		want [][]int
		e    api.Errno
	}{
		{adder(), nil, nil, api.OK}, {adder(), [][]int{{1}, {2}, {3}}, [][]int{{7}, {8}, {10}}, api.OK},
		// the first error, in order
		{wrong, one(3), nil, api.ErrForm}, {wrong, one(1001), nil, api.ErrForm}, {wrong, [][]int{{}}, nil, api.ErrForm}, {api.Code{}, nil, nil, api.ErrForm},
		{adder(), one(1001), nil, api.ErrLong}, {adder(), make([][]int, 1001), nil, api.ErrLong}, {adder(), slices.Repeat([][]int{{500}}, 1001), nil, api.ErrLong},
		{adder(), [][]int{{1}, {}, {500}}, nil, api.ErrCount}, {adder(), [][]int{{1}, {500}, {}}, nil, api.ErrArg}, {adder(), append(one(999), []int{1, 2}), nil, api.ErrCount}, {adder(), append(one(999), []int{128}), nil, api.ErrArg}, {adder(), [][]int{{500, 1}}, nil, api.ErrCount},
		{rich(), [][]int{{1, 1}, {0, 5}}, [][]int{{0, 0}, {0, 0}}, api.OK}, {api.Code{Body: []api.Ins{end()}}, make([][]int, 3), [][]int{{}, {}, {}}, api.OK}, {api.Code{Body: []api.Ins{end()}}, one(1), nil, api.ErrCount},
	} {
		if got, e := exec.Run(r.c, r.ins); e != r.e || !same(got, r.want) {
			t.Errorf("%d: %v, error %d", i, got, e)
		}
	}
	if got, e := exec.Run(adder(), one(1000)); e != api.OK || len(got) != 1000 || got[999][0] != bv.Wrap(api.I8, 7+999) {
		t.Errorf("%d ticks, error %d", len(got), e)
	}
}

func same(a, b [][]int) bool { return slices.EqualFunc(a, b, slices.Equal[[]int]) }

// TestP2101New: code that code.Check refuses, whatever for, is ErrForm.
func TestP2101New(t *testing.T) {
	for i, turn := range []func(*api.Code){
		func(c *api.Code) { c.Body = make([]api.Ins, api.MaxCode+1) }, func(c *api.Code) { c.Kinds = slices.Repeat([]int{api.I8}, api.MaxCells+1) }, func(c *api.Code) { c.Stack = api.MaxStack + 1 },
		func(c *api.Code) { c.Ins = -1 }, func(c *api.Code) { c.Ins = 1 << 62 }, func(c *api.Code) { c.Kinds[0] = 0 }, func(c *api.Code) { c.Init = nil }, func(c *api.Code) { c.Init[0] = 128 }, func(c *api.Code) { c.Body = nil }, func(c *api.Code) { c.Body[0].Op = 10 }, func(c *api.Code) { c.Body = c.Body[:6] },
		func(c *api.Code) { c.Stack = 1 }, func(c *api.Code) { c.Body[0].N = 3 }, func(c *api.Code) { c.Body[0] = jump(6) }, func(c *api.Code) { c.Body[0] = jump(-1) }, func(c *api.Code) { c.Body[1] = save(0) }, func(c *api.Code) { c.Body[4] = un(api.OpNeg, api.I8) },
	} {
		c := adder()
		turn(&c)
		if m, e := exec.New(c); m != nil || e != api.ErrForm {
			t.Errorf("%d: %v, error %d", i, m, e)
		}
	}
	if m, e := exec.New(api.Code{}); m != nil || e != api.ErrForm {
		t.Errorf("%v, error %d", m, e)
	}
	rows(t, api.Code{Body: []api.Ins{end()}}, row{nil, nil, 1, nil}, row{[]int{}, nil, 1, nil})
	if cells := machine(t, rich()).Cells(); !slices.Equal(cells, []int{-1, 1}) {
		t.Error(cells)
	}
}
