package obc_test

import (
	"slices"
	"strconv"

	"metronome/api"
	"metronome/bv"
)

// clause is one thing that may be wrong with step code; it is asked of step code with which nothing ahead of it is wrong, unless one was left out: then it may panic.
type clause struct {
	name  string
	what  api.Errno
	wrong func(o oracle) bool
}

// oracle knows step code by lists: all names, all statements, those within others, too, all parts of expressions.
type oracle struct {
	api.Step
	vars []api.CVar
	all  []api.Stmt
	exps []api.CExp
}

func newOracle(s api.Step) (o oracle) {
	o.Step, o.vars, o.all = s, slices.Concat(s.Ins, s.Outs, s.Vars), slices.Clone(s.Body)
	for i := 0; i < len(o.all); i++ {
		o.exps = append(o.exps, inner(o.all[i].E)...)
		if o.all[i].Form == api.SIf {
			o.all = append(append(o.all, o.all[i].Then...), o.all[i].Else...)
		}
	}
	return o
}

// inner are all parts of an expression, itself the first.
func inner(e api.CExp) []api.CExp {
	list := []api.CExp{e}
	for i := 0; i < len(list); i++ {
		list = append(list, list[i].Kids...)
	}
	return list
}

func isOf(list []api.CVar, name string) bool {
	return slices.ContainsFunc(list, func(v api.CVar) bool { return v.Name == name })
}

func (o oracle) isCell(name string) bool {
	return slices.ContainsFunc(o.Cells, func(c api.Cell) bool { return c.Name == name })
}

func (o oracle) kind(name string) int {
	for _, v := range o.vars {
		if v.Name == name {
			return v.Kind
		}
	}
	return o.Cells[slices.IndexFunc(o.Cells, func(c api.Cell) bool { return c.Name == name })].Kind
}

func isKind(kind int) bool { return kind >= api.Bool && kind <= api.U64 }

var kidCount = map[int]int{api.ELit: 0, api.EVar: 0, api.EUn: 1, api.EBin: 2, api.EIf: 3, api.ECast: 1}

// kindOf is what an expression is, if its kids go together.
func (o oracle) kindOf(e api.CExp) int {
	switch e.Form {
	case api.ELit, api.ECast:
		return e.Kind
	case api.EVar:
		return o.kind(e.Name)
	case api.EBin:
		_, kind, _ := bv.Bin(e.Sub, o.kindOf(e.Kids[0]), 0, 0)
		return kind
	case api.EIf:
		return o.kindOf(e.Kids[1])
	}
	return o.kindOf(e.Kids[0])
}

// exp asks all parts of these forms (of all, if there are none).
func exp(wrong func(o oracle, e api.CExp) bool, forms ...int) func(oracle) bool {
	return func(o oracle) bool {
		return slices.ContainsFunc(o.exps, func(e api.CExp) bool {
			return (len(forms) == 0 || slices.Contains(forms, e.Form)) && wrong(o, e)
		})
	}
}

func stmt(wrong func(o oracle, s api.Stmt) bool, forms ...int) func(oracle) bool {
	return func(o oracle) bool {
		return slices.ContainsFunc(o.all, func(s api.Stmt) bool {
			return (len(forms) == 0 || slices.Contains(forms, s.Form)) && wrong(o, s)
		})
	}
}

func (o oracle) twice() bool {
	var names []string
	for _, v := range o.vars {
		names = append(names, v.Name)
	}
	for _, c := range o.Cells {
		names = append(names, c.Name)
	}
	slices.Sort(names)
	return len(slices.Compact(slices.Clone(names))) < len(names)
}

// clauses are those behind ErrLong, in their order.
func clauses() []clause {
	return []clause{
		{"twice", api.ErrTwice, oracle.twice},
		{"kind of a variable", api.ErrType, func(o oracle) bool {
			return slices.ContainsFunc(o.vars, func(v api.CVar) bool { return !isKind(v.Kind) })
		}},
		{"kind of a cell", api.ErrType, func(o oracle) bool {
			return slices.ContainsFunc(o.Cells, func(c api.Cell) bool { return !isKind(c.Kind) })
		}},
		{"form of a statement", api.ErrForm, stmt(func(o oracle, s api.Stmt) bool { return s.Form < 1 || s.Form > 3 })},
		{"form of an expression", api.ErrForm, exp(func(o oracle, e api.CExp) bool { _, ok := kidCount[e.Form]; return !ok })},
		{"kids", api.ErrForm, exp(func(o oracle, e api.CExp) bool { return len(e.Kids) != kidCount[e.Form] })},
		{"literal", api.ErrForm, exp(func(o oracle, e api.CExp) bool { return !bv.Is(e.Kind, e.N) }, api.ELit)},
		{"Init", api.ErrForm, func(o oracle) bool {
			return slices.ContainsFunc(o.Cells, func(c api.Cell) bool { return !bv.Is(c.Kind, c.Init) })
		}},
		{"name", api.ErrName, exp(func(o oracle, e api.CExp) bool { return !isOf(o.vars, e.Name) && !o.isCell(e.Name) }, api.EVar)},
		{"name of SSet", api.ErrName, stmt(func(o oracle, s api.Stmt) bool { return !isOf(o.Outs, s.Name) && !isOf(o.Vars, s.Name) }, api.SSet)},
		{"name of SStore", api.ErrName, stmt(func(o oracle, s api.Stmt) bool { return !o.isCell(s.Name) }, api.SStore)},
		{"operation of EUn", api.ErrType, exp(func(o oracle, e api.CExp) bool { _, ok := bv.Un(e.Sub, o.kindOf(e.Kids[0]), 0); return !ok }, api.EUn)},
		{"operation of EBin", api.ErrType, exp(func(o oracle, e api.CExp) bool {
			_, _, ok := bv.Bin(e.Sub, o.kindOf(e.Kids[0]), 0, 0)
			return !ok
		}, api.EBin)},
		{"kinds of EBin", api.ErrType, exp(func(o oracle, e api.CExp) bool { return o.kindOf(e.Kids[0]) != o.kindOf(e.Kids[1]) }, api.EBin)},
		{"condition of EIf", api.ErrType, exp(func(o oracle, e api.CExp) bool { return o.kindOf(e.Kids[0]) != api.Bool }, api.EIf)},
		{"kinds of EIf", api.ErrType, exp(func(o oracle, e api.CExp) bool { return o.kindOf(e.Kids[1]) != o.kindOf(e.Kids[2]) }, api.EIf)},
		{"kind of ECast", api.ErrType, exp(func(o oracle, e api.CExp) bool { return !isKind(e.Kind) }, api.ECast)},
		{"kind of SSet", api.ErrType, stmt(func(o oracle, s api.Stmt) bool { return o.kindOf(s.E) != o.kind(s.Name) }, api.SSet)},
		{"kind of SStore", api.ErrType, stmt(func(o oracle, s api.Stmt) bool { return o.kindOf(s.E) != o.kind(s.Name) }, api.SStore)},
		{"kind of SIf", api.ErrType, stmt(func(o oracle, s api.Stmt) bool { return o.kindOf(s.E) != api.Bool }, api.SIf)},
		{"nothing", api.OK, func(oracle) bool { return true }},
	}
}

// verdict is the place of the clause by which something is wrong first.
func verdict(s api.Step, list []clause) int {
	o := newOracle(s)
	return slices.IndexFunc(list, func(l clause) (wrong bool) {
		defer func() {
			if recover() != nil {
				wrong = true
			}
		}()
		return l.wrong(o)
	})
}

// player does step code by names alone. What it is told to leave out it does wrong, so that it shows whether that can be seen.
type player struct {
	oracle
	values map[string]int
	leave  string
	late   []func()
}

func played(s api.Step, ins [][]int, leave string) (outs [][]int) {
	p := &player{oracle: newOracle(s), values: map[string]int{}, leave: leave}
	for _, c := range s.Cells {
		p.values[c.Name] = c.Init
	}
	for _, values := range ins {
		for _, v := range slices.Concat(s.Outs, s.Vars) {
			if leave != "zero" {
				p.values[v.Name] = 0
			}
		}
		for i, n := range values {
			p.values[s.Ins[i].Name] = n
		}
		p.do(s.Body)
		for _, do := range p.late {
			do()
		}
		p.late = nil
		told := []int{}
		for _, v := range s.Outs {
			told = append(told, p.values[v.Name])
		}
		outs = append(outs, told)
	}
	return outs
}

func (p *player) do(list []api.Stmt) {
	for _, s := range list {
		n := p.exp(s.E)
		switch {
		case s.Form == api.SStore && p.leave == "at once":
			p.late = append(p.late, func() { p.values[s.Name] = n })
		case s.Form != api.SIf:
			p.values[s.Name] = n
		case n == 1:
			p.do(s.Then)
		case p.leave != "else":
			p.do(s.Else)
		}
	}
}

func (p *player) exp(e api.CExp) (n int) {
	kid := func(i int) int { return p.exp(e.Kids[i]) }
	switch e.Form {
	case api.EVar:
		return p.values[e.Name]
	case api.EUn:
		n, _ = bv.Un(e.Sub, p.kindOf(e.Kids[0]), kid(0))
		return n
	case api.EBin:
		n, _, _ = bv.Bin(e.Sub, p.kindOf(e.Kids[0]), kid(0), kid(1))
		return n
	case api.ECast:
		n, _ = bv.Cast(p.kindOf(e.Kids[0]), e.Kind, kid(0))
		return n
	case api.EIf:
		return kid(2 - kid(0))
	}
	return e.N
}

// code makes step code that Check takes.
func (m *maker) code() (s api.Step) {
	m.step = true
	m.kinds = []int{api.Bool, api.Bool, api.I8, api.I8, 1 + m.r.Intn(api.U64)}
	s.Ins, s.Outs, s.Vars = m.vars("x", 0, 3), m.vars("y", 0, 3), m.vars("l", 0, 4)
	for i := range m.r.Intn(4) {
		kind := pick(m, m.kinds)
		s.Cells = append(s.Cells, api.Cell{Name: "c" + strconv.Itoa(i), Kind: kind, Init: m.value(kind)})
	}
	m.now = slices.Concat(s.Ins, s.Outs, s.Vars)
	for _, c := range s.Cells {
		m.now = append(m.now, api.CVar{Name: c.Name, Kind: c.Kind})
	}
	s.Body = m.statements(s, 3)
	return s
}

func (m *maker) statements(s api.Step, deep int) (list []api.Stmt) {
	for range m.r.Intn(6) {
		made := api.Stmt{Form: api.SIf, E: m.exp(api.Bool, nil, m.r.Intn(3))}
		set := slices.Concat(s.Outs, s.Vars)
		switch what := m.r.Intn(5); {
		case what < 2 && len(set) > 0:
			v := pick(m, set)
			made = api.Stmt{Form: api.SSet, Name: v.Name, E: m.exp(v.Kind, nil, m.r.Intn(4))}
		case what < 4 && len(s.Cells) > 0:
			c := pick(m, s.Cells)
			made = api.Stmt{Form: api.SStore, Name: c.Name, E: m.exp(c.Kind, nil, m.r.Intn(4))}
		case deep == 0:
			continue
		default:
			made.Then, made.Else = m.statements(s, deep-1), m.statements(s, deep-1)
		}
		list = append(list, made)
	}
	return list
}
