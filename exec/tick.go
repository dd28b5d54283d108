package exec

import (
	"metronome/api"
	"metronome/bv"
)

// tick is one run of code that code.Check takes: so the stack has what an
// instruction takes off it, of the kinds that it wants, and each way ends.
type tick struct {
	slots []int
	stack []int
	next  int // the instruction that comes next
	ended bool
}

// run runs the code on its slots, and answers how many instructions that took.
func run(c api.Code, slots []int) int {
	t := tick{slots: slots, stack: make([]int, 0, c.Stack)}
	deeds := deedsOf()
	count := 0
	for !t.ended {
		in := c.Body[t.next]
		t.next++
		count++
		deeds[in.Op](&t, in)
	}
	return count
}

// deedsOf answers for each Op what does an instruction of it.
func deedsOf() [api.IEnd + 1]func(*tick, api.Ins) {
	return [...]func(*tick, api.Ins){
		api.IPush:  (*tick).lay,
		api.ILoad:  (*tick).load,
		api.ISave:  (*tick).save,
		api.IUn:    (*tick).unary,
		api.IBin:   (*tick).binary,
		api.ICast:  (*tick).cast,
		api.IJump:  (*tick).jump,
		api.IFalse: (*tick).branch,
		api.IEnd:   (*tick).end,
	}
}

func (t *tick) push(n int) { t.stack = append(t.stack, n) }

func (t *tick) pop() int {
	last := len(t.stack) - 1
	n := t.stack[last]
	t.stack = t.stack[:last]
	return n
}

func (t *tick) lay(in api.Ins) { t.push(in.N) }

func (t *tick) load(in api.Ins) { t.push(t.slots[in.N]) }

func (t *tick) save(in api.Ins) { t.slots[in.N] = t.pop() }

func (t *tick) unary(in api.Ins) {
	n, _ := bv.Un(in.N, in.K, t.pop())
	t.push(n)
}

func (t *tick) binary(in api.Ins) {
	second := t.pop()
	first := t.pop()
	n, _, _ := bv.Bin(in.N, in.K, first, second)
	t.push(n)
}

func (t *tick) cast(in api.Ins) {
	n, _ := bv.Cast(in.N, in.K, t.pop())
	t.push(n)
}

func (t *tick) jump(in api.Ins) { t.next += in.N }

func (t *tick) branch(in api.Ins) {
	if t.pop() == 0 {
		t.jump(in)
	}
}

func (t *tick) end(api.Ins) { t.ended = true }
