package core

import (
	"metronome/api"
	"metronome/bv"
)

// part is a part of an expression whose names have become places.
type part struct {
	api.CExp
	place int // of the variable that it names
	kind  int
	kids  []*part
}

// form works out a part of one form.
type form func(r *runner, p *part) int

func allForms() [api.ECast + 1]form {
	return [...]form{
		api.ELit:   (*runner).literal,
		api.EVar:   (*runner).held,
		api.EUn:    (*runner).unary,
		api.EBin:   (*runner).binary,
		api.EIf:    (*runner).choice,
		api.EWhen:  (*runner).sampled,
		api.EMerge: (*runner).merged,
		api.ECast:  (*runner).cast,
	}
}

// runner runs a flat program. The variables are asked in an order in which each
// stands behind all that it hangs on, so that each is asked once a tick.
type runner struct {
	*asker
	forms  [api.ECast + 1]form
	tick   int
	there  []bool
	values []int
	tells  []func() int // what tells a variable's value
	late   []func()     // what is done at the end of a tick
}

func newRunner(a *asker) *runner {
	count := len(a.vars)
	r := &runner{asker: a, forms: allForms(), there: make([]bool, count), values: make([]int, count), tells: make([]func() int, count)}
	for at := len(a.Ins); at < count; at++ {
		r.tells[at] = r.teller(at)
	}
	return r
}

// run answers the outputs of a tick.
func (r *runner) run(ins []int) []int {
	copy(r.values, ins)
	for _, at := range r.order {
		r.there[at] = r.holds(r.clocks[at])
		if r.there[at] && at >= len(r.Ins) {
			r.values[at] = r.tells[at]()
		}
	}
	for _, do := range r.late {
		do()
	}
	r.tick++
	outs := make([]int, len(r.Outs))
	copy(outs, r.values[len(r.Ins):])
	return outs
}

func (r *runner) holds(c clock) bool {
	if c == base {
		return true
	}
	place, on := c.edge()
	return r.there[place] && (r.values[place] != 0) == on
}

func (r *runner) teller(at int) func() int {
	q := r.equation(at)
	switch q.Form {
	case api.CMem:
		return r.memory(at, q)
	case api.CTick:
		return func() int { return truth(r.tick%q.Period == q.Offset) }
	}
	p := r.part(q.E)
	return func() int { return r.value(p) }
}

// memory keeps what Next is at the end of those ticks at which its variable is
// there: till then Next may have to be worked out.
func (r *runner) memory(at int, q api.CEq) func() int {
	kept, next := q.Init, r.places[q.Next]
	r.late = append(r.late, func() {
		if r.there[at] {
			kept = r.values[next]
		}
	})
	if q.Reset == "" {
		return func() int { return kept }
	}
	reset := r.places[q.Reset]
	return func() int {
		if r.values[reset] != 0 {
			return q.Init
		}
		return kept
	}
}

func truth(holds bool) int {
	if holds {
		return 1
	}
	return 0
}

func (r *runner) part(e api.CExp) *part {
	p := &part{CExp: e, place: r.places[e.Name]}
	var kinds []int
	for _, kid := range e.Kids {
		made := r.part(kid)
		p.kids, kinds = append(p.kids, made), append(kinds, made.kind)
	}
	p.kind, _ = r.kindBy(e, kinds)
	return p
}

func (r *runner) value(p *part) int { return r.forms[p.Form](r, p) }

func (r *runner) literal(p *part) int { return p.N }

func (r *runner) held(p *part) int { return r.values[p.place] }

func (r *runner) unary(p *part) int {
	n, _ := bv.Un(p.Sub, p.kids[0].kind, r.value(p.kids[0]))
	return n
}

func (r *runner) binary(p *part) int {
	n, _, _ := bv.Bin(p.Sub, p.kids[0].kind, r.value(p.kids[0]), r.value(p.kids[1]))
	return n
}

func (r *runner) cast(p *part) int {
	n, _ := bv.Cast(p.kids[0].kind, p.Kind, r.value(p.kids[0]))
	return n
}

func (r *runner) choice(p *part) int {
	if r.value(p.kids[0]) != 0 {
		return r.value(p.kids[1])
	}
	return r.value(p.kids[2])
}

func (r *runner) sampled(p *part) int { return r.value(p.kids[0]) }

// merged asks the kid that is there alone: the other one has no value.
func (r *runner) merged(p *part) int {
	if r.values[p.place] != 0 {
		return r.value(p.kids[0])
	}
	return r.value(p.kids[1])
}
