package obc

import (
	"metronome/api"
	"metronome/bv"
)

// line is a statement whose name has become a place, and whose expression a
// function that tells its value.
type line struct {
	form, place int
	value       func() int
	yes, no     []line
}

// deed does a statement of one form.
type deed func(r *runner, l *line)

func allDeeds() [api.SIf + 1]deed {
	return [...]deed{
		api.SSet:   (*runner).set,
		api.SStore: (*runner).store,
		api.SIf:    (*runner).choose,
	}
}

// runner runs step code.
type runner struct {
	*asker
	deeds [api.SIf + 1]deed
	vars  []int // inputs, then outputs, then variables
	cells []int
	body  []line
}

func newRunner(a *asker) *runner {
	r := &runner{asker: a, deeds: allDeeds()}
	r.vars = make([]int, len(a.Ins)+len(a.Outs)+len(a.Vars))
	for _, c := range a.Cells {
		r.cells = append(r.cells, c.Init)
	}
	r.body = r.lines(a.Body)
	return r
}

func (r *runner) lines(list []api.Stmt) []line {
	var all []line
	for _, s := range list {
		value, _ := r.turn(s.E)
		l := line{form: s.Form, value: value, yes: r.lines(thenOf(s)), no: r.lines(elseOf(s))}
		if s.Form != api.SIf {
			l.place = r.slots[s.Name].place
		}
		all = append(all, l)
	}
	return all
}

// run answers the outputs of a tick.
func (r *runner) run(ins []int) []int {
	clear(r.vars)
	copy(r.vars, ins)
	r.do(r.body)
	outs := make([]int, len(r.Outs))
	copy(outs, r.vars[len(r.Ins):])
	return outs
}

func (r *runner) do(list []line) {
	for i := range list {
		r.deeds[list[i].form](r, &list[i])
	}
}

func (r *runner) set(l *line) { r.vars[l.place] = l.value() }

func (r *runner) store(l *line) { r.cells[l.place] = l.value() }

func (r *runner) choose(l *line) {
	if l.value() != 0 {
		r.do(l.yes)
	} else {
		r.do(l.no)
	}
}

// turn turns an expression into a function that tells its value, and answers
// its kind.
func (r *runner) turn(e api.CExp) (func() int, int) {
	var asks [maxKids]func() int
	var kinds [maxKids]int
	for i, kid := range e.Kids {
		asks[i], kinds[i] = r.turn(kid)
	}
	kind, _ := r.kindBy(e, kinds)
	return r.teller(e, kinds[0], asks), kind
}

// teller answers what tells the value of a part by those that tell its kids'
// values; of is the first one's kind.
func (r *runner) teller(e api.CExp, of int, asks [maxKids]func() int) func() int {
	form, op, to := e.Form, e.Sub, e.Kind
	first, second, third := asks[0], asks[1], asks[2]
	switch form {
	case api.EVar:
		return r.reader(r.slots[e.Name])
	case api.EUn:
		return func() int { n, _ := bv.Un(op, of, first()); return n }
	case api.EBin:
		return func() int { n, _, _ := bv.Bin(op, of, first(), second()); return n }
	case api.ECast:
		return func() int { n, _ := bv.Cast(of, to, first()); return n }
	case api.EIf:
		return func() int {
			if first() != 0 {
				return second()
			}
			return third()
		}
	}
	n := e.N
	return func() int { return n }
}

func (r *runner) reader(s slot) func() int {
	from := r.vars
	if s.role == kept {
		from = r.cells
	}
	return func() int { return from[s.place] }
}
