package sat

import "container/heap"

// Bounds of the numbers by which conflicts are counted.
const (
	firstStep = 1 << 12
	mostStep  = 1 << 50
	fall      = 36 // by how many bits all fall, where a step would be above most
)

// order is a heap of variables: the first one is that which was in conflicts
// most often. The later a conflict the more it counts: each step is greater than
// the one before it.
type order struct {
	heap   []int
	places []int // by variable, where on the heap it is; none, if it isn't
	counts []int
	step   int
}

// none is the place of a variable that is not on the heap.
const none = -1

func newOrder(vars int) *order {
	o := &order{places: make([]int, vars+1), counts: make([]int, vars+1), step: firstStep}
	for v := range o.places {
		o.places[v] = none
	}
	return o
}

func (o *order) Len() int { return len(o.heap) }

func (o *order) Less(i, j int) bool {
	a, b := o.heap[i], o.heap[j]
	return o.counts[a] > o.counts[b] || o.counts[a] == o.counts[b] && a < b
}

func (o *order) Swap(i, j int) {
	o.heap[i], o.heap[j] = o.heap[j], o.heap[i]
	o.places[o.heap[i]], o.places[o.heap[j]] = i, j
}

func (o *order) Push(x any) {
	v := x.(int)
	o.places[v] = len(o.heap)
	o.heap = append(o.heap, v)
}

func (o *order) Pop() any {
	last := len(o.heap) - 1
	v := o.heap[last]
	o.places[v] = none
	o.heap = o.heap[:last]
	return v
}

// offer puts a variable to the heap, if it is not there.
func (o *order) offer(v int) {
	if o.places[v] == none {
		heap.Push(o, v)
	}
}

func (o *order) next() int { return heap.Pop(o).(int) }

// count tells that a variable was in a conflict.
func (o *order) count(v int) {
	o.counts[v] += o.step
	if o.places[v] != none {
		heap.Fix(o, o.places[v])
	}
}

// age lets what comes count more than what was.
func (o *order) age() {
	if o.step += o.step / 16; o.step <= mostStep {
		return
	}
	o.step >>= fall
	for v := range o.counts {
		o.counts[v] >>= fall
	}
	heap.Init(o) // some are equal now that weren't
}
