package rate

import (
	"cmp"
	"container/heap"
	"iter"
)

// beat is a tick at which a pair is next on.
type beat struct {
	tick, pair int
}

// queue has one beat of each pair; the least is the earliest, and of one tick
// that of the pair that stands ahead.
type queue []beat

func (q queue) Len() int { return len(q) }

func (q queue) Less(i, j int) bool {
	return cmp.Or(cmp.Compare(q[i].tick, q[j].tick), cmp.Compare(q[i].pair, q[j].pair)) < 0
}

func (q queue) Swap(i, j int) { q[i], q[j] = q[j], q[i] }
func (q *queue) Push(b any)   { *q = append(*q, b.(beat)) }

func (q *queue) Pop() any {
	last := len(*q) - 1
	b := (*q)[last]
	*q = (*q)[:last]
	return b
}

// beats goes over all ticks below the base at which a pair is on, tick by
// tick, and tells that pair's number with each.
func beats(l [][2]int, base int) iter.Seq2[int, int] {
	return func(yield func(int, int) bool) {
		var q queue
		for i, p := range l {
			heap.Push(&q, beat{p[1], i})
		}
		for len(q) > 0 {
			b := heap.Pop(&q).(beat)
			if !yield(b.tick, b.pair) {
				return
			}
			b.tick += l[b.pair][0]
			if b.tick < base {
				heap.Push(&q, b)
			}
		}
	}
}

// each hands all beats on, in their order.
func each(l [][2]int, base int, on func(tick, pair int)) {
	for tick, pair := range beats(l, base) {
		on(tick, pair)
	}
}
