package arrays_test

import (
	"slices"

	"metronome/api"
	"metronome/bv"
)

// An oracle of chapter 11: what a program means, with arrays or without. Each part of an instance is there by itself, on its own clock, and is asked once a tick; what reads a value that is not there, or that hangs on itself, panics.

// cell is a variable of an instance.
type cell struct {
	api.Var
	define func() []int
	tick   int
	busy   bool
	value  []int
}

type scope struct {
	up    *scope
	cells map[string]*cell
}

func (s *scope) find(name string) *cell {
	for ; s != nil; s = s.up {
		if c := s.cells[name]; c != nil {
			return c
		}
	}
	panic("no variable " + name)
}

type instance struct {
	program api.Program
	node    api.Node
	scope   *scope
	body    *list
	tick    int
	later   []func()
}

// list is a list of items: its parts, its automata, what it defines.
type list struct {
	parts    []*part
	automata []*automaton
	defines  map[string]func() []int
}

type automaton struct {
	in     *instance
	around *scope
	states []api.State
	bodies map[int]*stateBody
	now    int
	mark   bool
	tick   int
	chosen *stateBody
}

type stateBody struct {
	scope *scope
	*list
}

// part is a part of an expression, with its memory.
type part struct {
	in    *instance
	scope *scope
	e     api.Exp
	kind  int
	clock []api.Edge
	kids  []*part
	count int
	kept  []int
	calls []*instance
	tick  int
	value []int
}

func newInstance(p api.Program, name string) *instance {
	i := slices.IndexFunc(p.Nodes, func(n api.Node) bool { return n.Name == name })
	in := &instance{program: p, node: p.Nodes[i], scope: &scope{cells: map[string]*cell{}}}
	in.declare(in.scope, nil, in.node.Ins, in.node.Outs)
	in.declare(in.scope, in.node.Locals)
	in.body = in.list(in.node.Items, in.scope)
	for name, c := range in.scope.cells {
		c.define = in.body.defines[name]
	}
	return in
}

// declare lets variables be there: locals have a clock, other lists none.
func (in *instance) declare(s *scope, locals []api.Var, others ...[]api.Var) {
	for _, v := range locals {
		s.cells[v.Name] = &cell{Var: v}
	}
	for _, v := range slices.Concat(others...) {
		v.Clock = nil
		s.cells[v.Name] = &cell{Var: v}
	}
}

func (in *instance) list(items []api.Item, s *scope) *list {
	l := &list{defines: map[string]func() []int{}}
	for _, i := range items {
		if len(i.States) > 0 {
			a := &automaton{in: in, around: s, states: i.States, bodies: map[int]*stateBody{}}
			l.automata = append(l.automata, a)
			for name := range a.body(0).defines {
				if a.body(0).scope.cells[name] == nil {
					l.defines[name] = func() []int { return a.active().defines[name]() }
				}
			}
			continue
		}
		root := in.part(i.E, s, s.find(i.Names[0]).Clock)
		l.parts = append(l.parts, root)
		from := 0
		for _, name := range i.Names {
			size := max(1, s.find(name).T.Len)
			at := from
			l.defines[name] = func() []int { return root.get()[at : at+size] }
			from += size
		}
	}
	return l
}

func (a *automaton) body(i int) *stateBody {
	if a.bodies[i] == nil {
		b := &stateBody{scope: &scope{up: a.around, cells: map[string]*cell{}}}
		a.in.declare(b.scope, a.states[i].Locals)
		b.list = a.in.list(a.states[i].Items, b.scope)
		for name, c := range b.scope.cells {
			c.define = b.defines[name]
		}
		a.bodies[i] = b
	}
	return a.bodies[i]
}

func (a *automaton) move(s *scope, list []api.Trans) {
	for _, t := range list {
		if a.in.part(t.Cond, s, nil).fresh()[0] == 1 {
			a.now = slices.IndexFunc(a.states, func(s api.State) bool { return s.Name == t.To })
			a.mark = !t.Cont
			return
		}
	}
}

// active finds the state of this tick.
func (a *automaton) active() *stateBody {
	if a.tick != a.in.tick {
		a.tick = a.in.tick
		a.move(a.around, a.states[a.now].Unless)
		if a.mark {
			delete(a.bodies, a.now)
		}
		a.mark, a.chosen = false, a.body(a.now)
	}
	return a.chosen
}

func (l *list) run() {
	for _, p := range l.parts {
		p.force()
	}
	for _, a := range l.automata {
		a.active().run()
	}
}

func (l *list) end() {
	for _, a := range l.automata {
		a.active().end()
		a.move(a.active().scope, a.states[a.now].Until)
	}
}

func (in *instance) activate(values []int) (outs []int) {
	in.tick++
	for _, v := range in.node.Ins {
		c, size := in.scope.find(v.Name), max(1, v.T.Len)
		c.tick, c.value = in.tick, values[:size]
		values = values[size:]
	}
	in.body.run()
	for _, later := range in.later {
		later()
	}
	in.later = nil
	for _, v := range in.node.Outs {
		outs = append(outs, in.get(in.scope.find(v.Name), in.scope)...)
	}
	in.body.end()
	return outs
}

func (in *instance) there(clock []api.Edge, s *scope) bool {
	for _, e := range clock {
		c := s.find(e.Name)
		if !in.there(c.Clock, s) || (in.get(c, s)[0] == 1) != e.On {
			return false
		}
	}
	return true
}

func (in *instance) get(c *cell, s *scope) []int {
	if !in.there(c.Clock, s) {
		panic(c.Name + " is not there")
	}
	if c.tick != in.tick {
		if c.busy {
			panic(c.Name + " hangs on itself")
		}
		c.busy = true
		c.value = c.define()
		c.busy, c.tick = false, in.tick
	}
	return c.value
}

func (in *instance) nodeOf(name string) api.Node {
	return in.program.Nodes[slices.IndexFunc(in.program.Nodes, func(n api.Node) bool { return n.Name == name })]
}

func (in *instance) part(e api.Exp, s *scope, clock []api.Edge) *part {
	p := &part{in: in, scope: s, e: e, clock: clock}
	for i, kid := range e.Kids {
		on := clock
		if e.Form == api.EWhen || e.Form == api.EMerge {
			on = s.find(e.Name).Clock
		}
		if e.Form == api.EMerge {
			on = append(slices.Clone(on), api.Edge{Name: e.Name, On: i == 0})
		}
		p.kids = append(p.kids, in.part(kid, s, on))
	}
	p.kind = p.kindOf()
	return p
}

func (p *part) kindOf() int {
	switch p.e.Form {
	case api.ELit, api.ECast:
		return p.e.T.Kind
	case api.EVar:
		return p.scope.find(p.e.Name).T.Kind
	case api.ETick:
		return api.Bool
	case api.EBin:
		_, kind, _ := bv.Bin(p.e.Sub, p.kids[0].kind, 0, 0)
		return kind
	case api.ECall, api.EReset, api.EMap, api.EFold:
		return p.in.nodeOf(p.e.Name).Outs[0].T.Kind
	}
	return p.kids[len(p.kids)-1].kind
}

// force asks all parts that are active.
func (p *part) force() {
	if p.in.there(p.clock, p.scope) {
		p.get()
	}
	for _, k := range p.kids {
		k.force()
	}
}

func (p *part) get() []int {
	if p.tick != p.in.tick {
		p.value = p.fresh()
		p.tick = p.in.tick
	}
	return p.value
}

func (p *part) fresh() []int {
	if !p.in.there(p.clock, p.scope) {
		panic("a part is not there")
	}
	switch p.e.Form {
	case api.ELit:
		return []int{p.e.N}
	case api.EVar:
		return p.in.get(p.scope.find(p.e.Name), p.scope)
	case api.EUn:
		n, ok := bv.Un(p.e.Sub, p.kind, p.kids[0].get()[0])
		return known(n, ok)
	case api.EBin:
		n, _, ok := bv.Bin(p.e.Sub, p.kids[0].kind, p.kids[0].get()[0], p.kids[1].get()[0])
		return known(n, ok)
	case api.ECast:
		n, ok := bv.Cast(p.kids[0].kind, p.kind, p.kids[0].get()[0])
		return known(n, ok)
	case api.EIf:
		return p.kids[2-p.kids[0].get()[0]].get()
	case api.EWhen:
		return p.kids[0].get()
	case api.EMerge:
		return p.kids[1-p.in.get(p.scope.find(p.e.Name), p.scope)[0]].get()
	case api.EPre, api.EArrow, api.EFby, api.ETick:
		return p.remembered()
	case api.EArr:
		var all []int
		for _, k := range p.kids {
			all = append(all, k.get()[0])
		}
		return all
	case api.EIndex:
		return p.kids[0].get()[p.e.N:][:1]
	case api.ERep:
		return slices.Repeat(p.kids[0].get()[:1], p.e.N)
	}
	return p.called()
}

func known(n int, ok bool) []int {
	if !ok {
		panic("no such operation")
	}
	return []int{n}
}

func (p *part) remembered() []int {
	p.in.later = append(p.in.later, func() {
		p.count++
		if p.e.Form == api.EPre || p.e.Form == api.EFby {
			p.kept = p.kids[len(p.kids)-1].get()
		}
	})
	switch {
	case p.e.Form == api.ETick:
		if p.count%p.e.N == p.e.M {
			return []int{1}
		}
		return []int{0}
	case p.e.Form == api.EPre && p.count == 0: // what must not be seen
		return slices.Repeat([]int{1}, 16)
	case p.e.Form == api.EArrow:
		return p.kids[min(1, p.count)].get()
	case p.count == 0:
		return p.kids[0].get()
	}
	return p.kept
}

// run activates the instance of that place.
func (p *part) run(i int, anew bool, values ...int) []int {
	for len(p.calls) <= i {
		p.calls = append(p.calls, newInstance(p.in.program, p.e.Name))
	}
	if anew {
		p.calls[i] = newInstance(p.in.program, p.e.Name)
	}
	return p.calls[i].activate(values)
}

func (p *part) called() []int {
	var values []int
	switch p.e.Form {
	case api.EMap:
		for i := range p.kids[0].get() {
			var ins []int
			for _, k := range p.kids {
				ins = append(ins, k.get()[i])
			}
			values = append(values, p.run(i, false, ins...)...)
		}
		return values
	case api.EFold:
		values = p.kids[0].get()
		for i, v := range p.kids[1].get() {
			values = p.run(i, false, values[0], v)
		}
		return values
	}
	for i, k := range p.kids {
		size := 1
		if ins := p.in.nodeOf(p.e.Name).Ins; i < len(ins) {
			size = max(1, ins[i].T.Len)
		}
		values = append(values, k.get()[:size]...)
	}
	if p.e.Form == api.ECall {
		return p.run(0, false, values...)
	}
	last := len(values) - 1
	return p.run(0, values[last] == 1, values[:last]...)
}

// meaning is what a node answers, tick by tick.
func meaning(p api.Program, node string, ticks [][]int) (all [][]int) {
	in := newInstance(p, node)
	for _, values := range ticks {
		all = append(all, in.activate(values))
	}
	return all
}
