package core_test

import (
	"slices"

	"metronome/api"
	"metronome/bv"
)

// clause is one thing that may be wrong with a flat program; it is asked of programs with which nothing ahead of it is wrong, unless one was left out: then it may panic.
type clause struct {
	name  string
	what  api.Errno
	wrong func(o oracle) bool
}

// oracle knows a flat program by what it looks up each time.
type oracle struct {
	api.Core
	all []api.CVar
}

func newOracle(c api.Core) oracle { return oracle{c, slices.Concat(c.Ins, c.Outs, c.Locals)} }

func (o oracle) vars() []api.CVar { return o.all }

func (o oracle) find(name string) (api.CVar, bool) {
	at := slices.IndexFunc(o.all, func(v api.CVar) bool { return v.Name == name })
	if at < 0 {
		return api.CVar{}, false
	}
	return o.all[at], true
}

func (o oracle) kind(name string) int { v, _ := o.find(name); return v.Kind }

func (o oracle) clock(name string) []api.Edge { v, _ := o.find(name); return v.Clock }

func (o oracle) isVar(name string) bool { _, ok := o.find(name); return ok }

// exps are all parts of the expressions of equations CDef.
func (o oracle) exps() (list []api.CExp) {
	for _, q := range o.of(api.CDef) {
		list = append(list, inner(q.E)...)
	}
	return list
}

func inner(e api.CExp) []api.CExp {
	list := []api.CExp{e}
	for i := 0; i < len(list); i++ {
		list = append(list, list[i].Kids...)
	}
	return list
}

func (o oracle) of(form int) (list []api.CEq) {
	for _, q := range o.Eqs {
		if q.Form == form {
			list = append(list, q)
		}
	}
	return list
}

func depth(e api.CExp) int {
	most := 0
	for _, k := range e.Kids {
		most = max(most, depth(k))
	}
	return most + 1
}

func some[T any](list []T, is func(T) bool) bool { return slices.ContainsFunc(list, is) }

func twice(names []string) bool {
	slices.Sort(names)
	return len(slices.Compact(slices.Clone(names))) < len(names)
}

func varNames(list []api.CVar) (names []string) {
	for _, v := range list {
		names = append(names, v.Name)
	}
	return names
}

func isKind(kind int) bool { return kind >= api.Bool && kind <= api.U64 }

func hasName(e api.CExp) bool {
	return slices.Contains([]int{api.EVar, api.EWhen, api.EMerge}, e.Form)
}

var kidCount = map[int]int{api.ELit: 0, api.EVar: 0, api.EUn: 1, api.EBin: 2, api.EIf: 3, api.ECast: 1, api.EWhen: 1, api.EMerge: 2}

// kindOf is what an expression is, if its kids go together.
func (o oracle) kindOf(e api.CExp) int {
	switch e.Form {
	case api.ELit, api.ECast:
		return e.Kind
	case api.EVar:
		return o.kind(e.Name)
	case api.EBin:
		_, kind, _ := bv.Bin(e.Sub, o.kindOf(e.Kids[0]), 0, 0)
		return kind
	case api.EIf:
		return o.kindOf(e.Kids[1])
	}
	return o.kindOf(e.Kids[0])
}

// clockOf is an expression's clock, whether it is any, and whether its kids go together.
func (o oracle) clockOf(e api.CExp) (clock []api.Edge, free, ok bool) {
	if e.Form == api.EVar {
		return o.clock(e.Name), false, true
	}
	free, ok = true, true
	for i, k := range e.Kids {
		c, any, right := o.clockOf(k)
		want := clock
		switch e.Form {
		case api.EWhen:
			want, free = o.clock(e.Name), false
		case api.EMerge:
			want, free = append(slices.Clone(o.clock(e.Name)), api.Edge{Name: e.Name, On: i == 0}), false
		}
		ok = ok && right && (any || free || slices.Equal(c, want))
		if !any {
			clock, free = c, false
		}
	}
	switch e.Form {
	case api.EWhen:
		clock = append(slices.Clone(o.clock(e.Name)), api.Edge{Name: e.Name, On: e.N == 1})
	case api.EMerge:
		clock = o.clock(e.Name)
	}
	return clock, free, ok
}

// hangs are the names that a variable hangs on at once.
func (o oracle) hangs(name string) (names []string) {
	for _, q := range o.Eqs {
		if q.Name == name && q.Form == api.CMem && q.Reset != "" {
			names = append(names, q.Reset)
		}
		if q.Name == name && q.Form == api.CDef {
			for _, e := range inner(q.E) {
				if hasName(e) {
					names = append(names, e.Name)
				}
			}
		}
	}
	for _, e := range o.clock(name) {
		names = append(names, e.Name)
	}
	return names
}

func (o oracle) cycle() bool {
	for _, v := range o.vars() {
		seen := o.hangs(v.Name)
		for i := 0; i < len(seen); i++ {
			for _, name := range o.hangs(seen[i]) {
				if !slices.Contains(seen, name) {
					seen = append(seen, name)
				}
			}
		}
		if slices.Contains(seen, v.Name) {
			return true
		}
	}
	return false
}

// clauses are in the order of the document.
func clauses() []clause {
	def := func(is func(o oracle, q api.CEq) bool, forms ...int) func(oracle) bool {
		return func(o oracle) bool {
			return some(o.Eqs, func(q api.CEq) bool { return (len(forms) == 0 || slices.Contains(forms, q.Form)) && is(o, q) })
		}
	}
	exp := func(is func(o oracle, e api.CExp) bool, forms ...int) func(oracle) bool {
		return func(o oracle) bool {
			return some(o.exps(), func(e api.CExp) bool { return (len(forms) == 0 || slices.Contains(forms, e.Form)) && is(o, e) })
		}
	}
	variable := func(is func(o oracle, v api.CVar) bool) func(oracle) bool {
		return func(o oracle) bool { return some(o.vars(), func(v api.CVar) bool { return is(o, v) }) }
	}
	edge := func(is func(o oracle, name string) bool) func(oracle) bool {
		return variable(func(o oracle, v api.CVar) bool {
			return some(v.Clock, func(e api.Edge) bool { return is(o, e.Name) })
		})
	}
	list := []clause{
		{"many equations", api.ErrLong, func(o oracle) bool { return len(o.Eqs) > 2000 }},
		{"many variables", api.ErrLong, func(o oracle) bool { return len(o.vars()) > 2000 }},
		{"deep", api.ErrLong, def(func(o oracle, q api.CEq) bool { return depth(q.E) > 400 }, api.CDef)},
		{"parts", api.ErrLong, def(func(o oracle, q api.CEq) bool { return len(inner(q.E)) > 2000 }, api.CDef)},
		{"variables of one name", api.ErrTwice, func(o oracle) bool { return twice(varNames(o.vars())) }},
		{"equations of one name", api.ErrTwice, func(o oracle) bool {
			var names []string
			for _, q := range o.Eqs {
				names = append(names, q.Name)
			}
			return twice(names)
		}},
		{"kind of a variable", api.ErrType, variable(func(o oracle, v api.CVar) bool { return !isKind(v.Kind) })},
		{"equation of no variable", api.ErrName, def(func(o oracle, q api.CEq) bool { return !o.isVar(q.Name) })},
		{"equation of an input", api.ErrName, def(func(o oracle, q api.CEq) bool { return slices.Contains(varNames(o.Ins), q.Name) })},
		{"name of EVar", api.ErrName, exp(func(o oracle, e api.CExp) bool { return !o.isVar(e.Name) }, api.EVar)},
		{"name of EWhen", api.ErrName, exp(func(o oracle, e api.CExp) bool { return !o.isVar(e.Name) }, api.EWhen)},
		{"name of EMerge", api.ErrName, exp(func(o oracle, e api.CExp) bool { return !o.isVar(e.Name) }, api.EMerge)},
		{"name in a clock", api.ErrName, edge(func(o oracle, name string) bool { return !o.isVar(name) })},
		{"Next", api.ErrName, def(func(o oracle, q api.CEq) bool { return !o.isVar(q.Next) }, api.CMem)},
		{"Reset", api.ErrName, def(func(o oracle, q api.CEq) bool { return q.Reset != "" && !o.isVar(q.Reset) }, api.CMem)},
		{"missing", api.ErrMissing, func(o oracle) bool {
			return some(slices.Concat(o.Outs, o.Locals), func(v api.CVar) bool {
				return !some(o.Eqs, func(q api.CEq) bool { return q.Name == v.Name })
			})
		}},
		{"form of an equation", api.ErrForm, def(func(o oracle, q api.CEq) bool { return q.Form < api.CDef || q.Form > api.CTick })},
		{"form of an expression", api.ErrForm, exp(func(o oracle, e api.CExp) bool { _, ok := kidCount[e.Form]; return !ok })},
		{"kids", api.ErrForm, exp(func(o oracle, e api.CExp) bool { n, ok := kidCount[e.Form]; return ok && len(e.Kids) != n })},
		{"Init", api.ErrForm, def(func(o oracle, q api.CEq) bool { return !bv.Is(o.kind(q.Name), q.Init) }, api.CMem)},
		{"N of ELit", api.ErrForm, exp(func(o oracle, e api.CExp) bool { return !bv.Is(e.Kind, e.N) }, api.ELit)},
		{"Period above", api.ErrForm, def(func(o oracle, q api.CEq) bool { return q.Period > 64 }, api.CTick)},
		{"Offset below", api.ErrForm, def(func(o oracle, q api.CEq) bool { return q.Offset < 0 }, api.CTick)},
		{"Offset above, or Period below", api.ErrForm, def(func(o oracle, q api.CEq) bool { return q.Period < 1 || q.Offset >= q.Period }, api.CTick)},
		{"N of EWhen", api.ErrForm, exp(func(o oracle, e api.CExp) bool { return e.N != 0 && e.N != 1 }, api.EWhen)},
		{"kind of EUn", api.ErrType, exp(func(o oracle, e api.CExp) bool { _, ok := bv.Un(e.Sub, o.kindOf(e.Kids[0]), 0); return !ok }, api.EUn)},
		{"kind of EBin", api.ErrType, exp(func(o oracle, e api.CExp) bool { _, _, ok := bv.Bin(e.Sub, o.kindOf(e.Kids[0]), 0, 0); return !ok }, api.EBin)},
		{"kinds of EBin", api.ErrType, exp(func(o oracle, e api.CExp) bool { return o.kindOf(e.Kids[0]) != o.kindOf(e.Kids[1]) }, api.EBin)},
		{"condition of EIf", api.ErrType, exp(func(o oracle, e api.CExp) bool { return o.kindOf(e.Kids[0]) != api.Bool }, api.EIf)},
		{"kinds of EIf", api.ErrType, exp(func(o oracle, e api.CExp) bool { return o.kindOf(e.Kids[1]) != o.kindOf(e.Kids[2]) }, api.EIf)},
		{"kind of ECast", api.ErrType, exp(func(o oracle, e api.CExp) bool { return !isKind(e.Kind) }, api.ECast)},
		{"variable of EWhen", api.ErrType, exp(func(o oracle, e api.CExp) bool { return o.kind(e.Name) != api.Bool }, api.EWhen)},
		{"variable of EMerge", api.ErrType, exp(func(o oracle, e api.CExp) bool { return o.kind(e.Name) != api.Bool }, api.EMerge)},
		{"kinds of EMerge", api.ErrType, exp(func(o oracle, e api.CExp) bool { return o.kindOf(e.Kids[0]) != o.kindOf(e.Kids[1]) }, api.EMerge)},
		{"kind of an equation", api.ErrType, def(func(o oracle, q api.CEq) bool { return o.kindOf(q.E) != o.kind(q.Name) }, api.CDef)},
		{"kind of Next", api.ErrType, def(func(o oracle, q api.CEq) bool { return o.kind(q.Next) != o.kind(q.Name) }, api.CMem)},
		{"kind of Reset", api.ErrType, def(func(o oracle, q api.CEq) bool { return q.Reset != "" && o.kind(q.Reset) != api.Bool }, api.CMem)},
		{"kind of CTick", api.ErrType, def(func(o oracle, q api.CEq) bool { return o.kind(q.Name) != api.Bool }, api.CTick)},
		{"kind of an edge", api.ErrType, edge(func(o oracle, name string) bool { return o.kind(name) != api.Bool })},
		{"clock of an input", api.ErrClock, func(o oracle) bool { return some(o.Ins, func(v api.CVar) bool { return len(v.Clock) > 0 }) }},
		{"clock of an output", api.ErrClock, func(o oracle) bool { return some(o.Outs, func(v api.CVar) bool { return len(v.Clock) > 0 }) }},
		{"clock of CTick", api.ErrClock, def(func(o oracle, q api.CEq) bool { return len(o.clock(q.Name)) > 0 }, api.CTick)},
		{"clock of an edge", api.ErrClock, variable(func(o oracle, v api.CVar) bool {
			for i, e := range v.Clock {
				if !slices.Equal(o.clock(e.Name), v.Clock[:i]) {
					return true
				}
			}
			return false
		})},
		{"clocks of kids", api.ErrClock, def(func(o oracle, q api.CEq) bool { _, _, ok := o.clockOf(q.E); return !ok }, api.CDef)},
		{"clock of an equation", api.ErrClock, def(func(o oracle, q api.CEq) bool {
			c, free, ok := o.clockOf(q.E)
			return ok && !free && !slices.Equal(c, o.clock(q.Name))
		}, api.CDef)},
		{"clock of Next", api.ErrClock, def(func(o oracle, q api.CEq) bool { return !slices.Equal(o.clock(q.Next), o.clock(q.Name)) }, api.CMem)},
		{"clock of Reset", api.ErrClock, def(func(o oracle, q api.CEq) bool {
			return q.Reset != "" && !slices.Equal(o.clock(q.Reset), o.clock(q.Name))
		}, api.CMem)},
		{"cycle", api.ErrCycle, oracle.cycle},
		{"nothing", api.OK, func(oracle) bool { return true }},
	}
	return list
}

// verdict is the place of the clause by which something is wrong first.
func verdict(c api.Core, list []clause) int {
	o := newOracle(c)
	return slices.IndexFunc(list, func(l clause) (wrong bool) {
		defer func() {
			if recover() != nil {
				wrong = true
			}
		}()
		return l.wrong(o)
	})
}

// past works out the meaning of a flat program from what was ahead of a tick: it has no memories.
type past struct {
	oracle
	ins   [][]int
	leave string
	known map[key]int
}

type key struct {
	name string
	tick int
}

func (p past) there(name string, tick int) bool {
	for _, e := range p.clock(name) {
		if !p.there(e.Name, tick) || (p.value(e.Name, tick) == 1) != e.On {
			return false
		}
	}
	return true
}

func (p past) value(name string, tick int) int {
	k := key{name, tick}
	if _, ok := p.known[k]; !ok {
		p.known[k] = p.work(name, tick)
	}
	return p.known[k]
}

func (p past) work(name string, tick int) int {
	if at := slices.Index(varNames(p.Ins), name); at >= 0 {
		return p.ins[tick][at]
	}
	q := p.Eqs[slices.IndexFunc(p.Eqs, func(q api.CEq) bool { return q.Name == name })]
	switch q.Form {
	case api.CTick:
		if tick%q.Period == q.Offset {
			return 1
		}
		return 0
	case api.CMem:
		if q.Reset != "" && p.value(q.Reset, tick) == 1 && p.leave != "Reset" {
			return q.Init
		}
		for tick--; tick >= 0; tick-- {
			if p.there(name, tick) || p.leave == "activation" {
				return p.value(q.Next, tick)
			}
		}
		return q.Init
	}
	return p.exp(q.E, tick)
}

func (p past) exp(e api.CExp, tick int) (n int) {
	kid := func(i int) int { return p.exp(e.Kids[i], tick) }
	switch e.Form {
	case api.ELit:
		return e.N
	case api.EVar:
		return p.value(e.Name, tick)
	case api.EUn:
		n, _ = bv.Un(e.Sub, p.kindOf(e.Kids[0]), kid(0))
		return n
	case api.EBin:
		n, _, _ = bv.Bin(e.Sub, p.kindOf(e.Kids[0]), kid(0), kid(1))
		return n
	case api.ECast:
		n, _ = bv.Cast(p.kindOf(e.Kids[0]), e.Kind, kid(0))
		return n
	case api.EIf:
		return kid(2 - kid(0))
	case api.EWhen:
		return kid(0)
	}
	return kid(1 - p.value(e.Name, tick))
}

func meaning(c api.Core, ins [][]int, leave string) (outs [][]int) {
	p := past{newOracle(c), ins, leave, map[key]int{}}
	for tick := range ins {
		values := []int{}
		for _, v := range c.Outs {
			values = append(values, p.value(v.Name, tick))
		}
		outs = append(outs, values)
	}
	return outs
}
