package exec_test

import (
	"slices"

	"metronome/api"
	"metronome/bv"
)

// oracle tells what a machine is to do: it goes along the one way that the values take, with slots and a stack that are never changed, only made anew.
type oracle struct {
	c     api.Code
	cells []int
	high  int // the highest stack so far
}

func newOracle(c api.Code) *oracle { return &oracle{c: c, cells: slices.Clone(c.Init)} }

func (o *oracle) reset() { o.cells = slices.Clone(o.c.Init) }

func (o *oracle) refusal(ins []int) api.Errno {
	if len(ins) != o.c.Ins {
		return api.ErrCount
	}
	for i, n := range ins {
		if bv.Wrap(o.c.Kinds[i], n) != n {
			return api.ErrArg
		}
	}
	return api.OK
}

// tick is what Tick is to tell.
func (o *oracle) tick(ins []int) (outs []int, count int, e api.Errno) {
	if e := o.refusal(ins); e != api.OK {
		return nil, 0, e
	}
	free := len(o.c.Kinds) - o.c.Ins - o.c.Outs - o.c.Cells
	slots := slices.Concat(ins, make([]int, o.c.Outs), o.cells, make([]int, free))
	slots, count = o.follow(0, slots, nil)
	from := o.c.Ins + o.c.Outs
	o.cells = slots[from : from+o.c.Cells]
	return slots[o.c.Ins:from], count, api.OK
}

// follow answers what the slots are at the end, and how many instructions were run from one on.
func (o *oracle) follow(at int, slots, stack []int) ([]int, int) {
	o.high = max(o.high, len(stack))
	in := o.c.Body[at]
	top := func(down int) int { return stack[len(stack)-1-down] }
	off := func(count int, more ...int) []int { return slices.Concat(stack[:len(stack)-count], more) }
	to := at + 1
	switch in.Op {
	case api.IEnd:
		return slots, 1
	case api.IPush:
		stack = off(0, in.N)
	case api.ILoad:
		stack = off(0, slots[in.N])
	case api.ISave:
		slots = slices.Clone(slots)
		slots[in.N] = top(0)
		stack = off(1)
	case api.IUn:
		n, _ := bv.Un(in.N, in.K, top(0))
		stack = off(1, n)
	case api.IBin:
		n, _, _ := bv.Bin(in.N, in.K, top(1), top(0))
		stack = off(2, n)
	case api.ICast:
		n, _ := bv.Cast(in.N, in.K, top(0))
		stack = off(1, n)
	case api.IJump:
		to += in.N
	case api.IFalse:
		if top(0) == 0 {
			to += in.N
		}
		stack = off(1)
	}
	slots, count := o.follow(to, slots, stack)
	return slots, count + 1
}
