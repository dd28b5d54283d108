package sched

import (
	"container/heap"
	"iter"

	"metronome/api"
)

// placer puts equations in order.
type placer struct {
	behind [][]int     // of each equation those that hang on it
	waits  map[int]int // of each equation that waits, for how many
	next   front
}

func newPlacer(c api.Core) *placer {
	w := newWeb(c)
	p := &placer{behind: make([][]int, len(c.Eqs)), waits: map[int]int{}}
	for at := range c.Eqs {
		for by := range w.hangsOn(at) {
			p.hang(at, by)
		}
	}
	for at := range c.Eqs {
		if p.waits[at] == 0 {
			heap.Push(&p.next, at)
		}
	}
	return p
}

// hang is told of one equation after the other: what hangs on by already is
// the last in its list.
func (p *placer) hang(at, by int) {
	list := p.behind[by]
	if len(list) > 0 && list[len(list)-1] == at {
		return
	}
	p.behind[by] = append(list, at)
	p.waits[at]++
}

// stands tells the equations in their order.
func (p *placer) stands() iter.Seq[int] {
	return func(yield func(int) bool) {
		for p.next.Len() > 0 {
			at := heap.Pop(&p.next).(int)
			p.free(p.behind[at])
			if !yield(at) {
				return
			}
		}
	}
}

// free is told of those that wait for one equation less.
func (p *placer) free(list []int) {
	for _, at := range list {
		p.waits[at]--
		if p.waits[at] == 0 {
			delete(p.waits, at)
			heap.Push(&p.next, at)
		}
	}
}

func (p *placer) order() []int {
	list := make([]int, 0, len(p.behind))
	for at := range p.stands() {
		list = append(list, at)
	}
	return list
}

// levels goes by the order, so that a level is known ahead of those that it
// lifts.
func (p *placer) levels() []int {
	list := make([]int, len(p.behind))
	for at := range p.stands() {
		for _, b := range p.behind[at] {
			list[b] = max(list[b], list[at]+1)
		}
	}
	return list
}
