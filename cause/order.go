package cause

import (
	"container/heap"
)

// front are the variables that may stand next; the least of them is the one
// that is declared first.
type front []int

func (f front) Len() int           { return len(f) }
func (f front) Less(i, j int) bool { return f[i] < f[j] }
func (f front) Swap(i, j int)      { f[i], f[j] = f[j], f[i] }
func (f *front) Push(k any)        { *f = append(*f, k.(int)) }

func (f *front) Pop() any {
	last := len(*f) - 1
	k := (*f)[last]
	*f = (*f)[:last]
	return k
}

// placer puts the variables of a web in order.
type placer struct {
	knots  []knot
	behind [][]int     // of each knot those that hang on it
	waits  map[int]int // of each knot that waits, for how many
	next   front
}

func newPlacer(w *web) *placer {
	p := &placer{knots: w.knots, behind: make([][]int, len(w.knots)), waits: map[int]int{}}
	for k, of := range w.knots {
		p.waits[k] = len(of.on)
		for _, on := range of.on {
			p.behind[on] = append(p.behind[on], k)
		}
	}
	return p
}

// inOrder answers the names of the variables of a web, and whether all of them
// can stand.
func inOrder(w *web) ([]string, bool) {
	p := newPlacer(w)
	for k, of := range w.knots {
		if len(of.on) == 0 {
			p.free(k)
		}
	}
	var names []string
	for p.next.Len() > 0 {
		k := heap.Pop(&p.next).(int)
		names = append(names, p.knots[k].name)
		p.stand(k)
	}
	if len(p.waits) > 0 {
		return nil, false
	}
	return names, true
}

// free is told of a knot that waits for none any more. An item needs no place:
// it stands at once, so that what it defines may stand next.
func (p *placer) free(k int) {
	delete(p.waits, k)
	if p.knots[k].variable {
		heap.Push(&p.next, k)
	} else {
		p.stand(k)
	}
}

func (p *placer) stand(k int) {
	for _, b := range p.behind[k] {
		p.waits[b]--
		if p.waits[b] == 0 {
			p.free(b)
		}
	}
}
