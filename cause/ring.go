package cause

// firstInRing answers the first variable of a web that hangs on itself, and
// whether there is one.
func firstInRing(w *web) (knot, bool) {
	r := &rings{knots: w.knots, met: make([]bool, len(w.knots)), inRing: make([]bool, len(w.knots)), open: map[int]int{}}
	for k := range w.knots {
		if !r.met[k] {
			r.walk(k)
		}
	}
	for k, is := range r.inRing {
		if is && w.knots[k].variable {
			return w.knots[k], true
		}
	}
	return knot{}, false
}

// step is a knot on the way, and how many of those that it hangs on have been
// met.
type step struct{ knot, met int }

// rings finds the knots that hang on themselves. It goes from each knot to
// those that it hangs on, and keeps those that it meets in a stack until all
// that hang on each other are on top of it. The way back is kept in a list: it
// may be as long as the web is great.
type rings struct {
	knots  []knot
	met    []bool
	inRing []bool
	way    []step
	stack  []int
	open   map[int]int // where the knots of the stack are in it
	starts []int       // where in the stack groups begin whose knots hang on each other, as far as is known
}

func (r *rings) walk(from int) {
	r.enter(from)
	for len(r.way) > 0 {
		last := len(r.way) - 1
		s := r.way[last]
		on := r.knots[s.knot].on
		if s.met == len(on) {
			r.way = r.way[:last]
			r.leave(s.knot)
			continue
		}
		r.way[last].met++
		r.meet(s.knot, on[s.met])
	}
}

func (r *rings) enter(k int) {
	r.met[k] = true
	r.open[k] = len(r.stack)
	r.starts = append(r.starts, len(r.stack))
	r.stack = append(r.stack, k)
	r.way = append(r.way, step{knot: k})
}

// meet: one that is in the stack hangs on the knot from which it is met, and so
// do all between them.
func (r *rings) meet(from, k int) {
	if !r.met[k] {
		r.enter(k)
		return
	}
	place, ok := r.open[k]
	if !ok {
		return
	}
	for r.starts[len(r.starts)-1] > place {
		r.starts = r.starts[:len(r.starts)-1]
	}
	if k == from {
		r.inRing[k] = true
	}
}

// leave takes the group that begins with a knot off the stack, if one does.
func (r *rings) leave(k int) {
	start := r.open[k]
	if r.starts[len(r.starts)-1] != start {
		return
	}
	r.starts = r.starts[:len(r.starts)-1]
	group := r.stack[start:]
	for _, member := range group {
		delete(r.open, member)
		if len(group) > 1 {
			r.inRing[member] = true
		}
	}
	r.stack = r.stack[:start]
}
