package stream_test

import (
	"slices"

	"metronome/api"
	"metronome/bv"
)

// The oracle has no memories: it tells the value of each part at each tick by looking back over the ticks at which the part was active in the same life. It may be told to leave out a rule: so it is seen whether the programs that it is asked of show that rule.
type oracle struct {
	program api.Program
	without string
}

// place is a list of items, a node's or a state's, with the variables that are declared with it: at which ticks it is active, and since which tick what it has at a tick lasts.
type place struct {
	*oracle
	up     *place
	active func(t int) bool
	since  func(t int) int
	vars   map[string]*signal
	values map[string]func(t int) []int // of the variables that are defined in it
}

// signal is a variable: its clock, its values.
type signal struct {
	api.Var
	at    *place
	value func(t int) []int
}

// term is a part.
type term struct {
	*place
	e     api.Exp
	kind  int
	clock []api.Edge
	only  func(t int) bool // if there is one, where it may be active at all
	kids  []*term
	told  func(t int) []int
}

func always(int) bool { return true }

// noted lets a function be asked once of each tick.
func noted[T any](f func(t int) T) func(t int) T {
	notes := map[int]T{}
	return func(t int) T {
		v, ok := notes[t]
		if !ok {
			v = f(t)
			notes[t] = v
		}
		return v
	}
}

func (o *oracle) node(name string) api.Node {
	return o.program.Nodes[slices.IndexFunc(o.program.Nodes, func(n api.Node) bool { return n.Name == name })]
}

// instance answers the outputs' values of a node.
func (o *oracle) instance(name string, active func(t int) bool, since func(t int) int, ins func(t int) []int) func(t int) []int {
	n := o.node(name)
	p := &place{oracle: o, active: noted(active), since: noted(since), vars: map[string]*signal{}}
	from := 0
	for _, v := range n.Ins {
		at, to := from, from+size(v.T)
		p.declare(nil, v)
		p.vars[v.Name].value = func(t int) []int { return ins(t)[at:to] }
		from = to
	}
	p.declare(nil, n.Outs...)
	p.declare(n.Locals)
	p.items(n.Items)
	return noted(func(t int) (all []int) {
		for _, v := range n.Outs {
			all = append(all, p.vars[v.Name].value(t)...)
		}
		return all
	})
}

func size(t api.Type) int { return max(1, t.Len) }

func (p *place) declare(locals []api.Var, others ...api.Var) {
	for _, v := range locals {
		p.vars[v.Name] = &signal{Var: v, at: p}
	}
	for _, v := range others {
		v.Clock = nil
		p.vars[v.Name] = &signal{Var: v, at: p}
	}
}

func (p *place) find(name string) *signal {
	for ; p != nil; p = p.up {
		if v := p.vars[name]; v != nil {
			return v
		}
	}
	panic("no variable " + name)
}

func (p *place) holds(clock []api.Edge, t int) bool {
	for _, edge := range clock {
		if v := p.find(edge.Name); !v.at.holds(v.Clock, t) || (v.value(t)[0] == 1) != edge.On {
			return false
		}
	}
	return true
}

// items lets the values of what they define be told.
func (p *place) items(list []api.Item) {
	p.values = map[string]func(t int) []int{}
	for _, i := range list {
		if len(i.States) > 0 {
			p.automaton(i.States)
			continue
		}
		clock := p.find(i.Names[0]).Clock
		if p.without == "equation" {
			clock = nil
		}
		told, from := p.term(i.E, clock).told, 0
		for _, name := range i.Names {
			at, to := from, from+size(p.find(name).T)
			p.values[name] = func(t int) []int { return told(t)[at:to] }
			from = to
		}
	}
	for name, v := range p.vars {
		if value := p.values[name]; value != nil {
			v.value = noted(value)
		}
	}
}

// mode is what an automaton is in: a state, and whether that begins anew.
type mode struct {
	state int
	mark  bool
}

type machine struct {
	around *place
	list   []api.State
	states []*place
	chosen func(t int) mode
}

func (p *place) automaton(list []api.State) {
	a := &machine{around: p, list: list}
	a.chosen = noted(a.choose)
	for i, s := range list {
		in := &place{oracle: p.oracle, up: p, vars: map[string]*signal{}}
		in.active = noted(func(t int) bool {
			return p.active(t) && (a.chosen(t).state == i || p.without == "other states" && p.up == nil)
		})
		in.since = noted(func(t int) int { return a.since(in, i, t) })
		in.declare(s.Locals)
		a.states = append(a.states, in)
		in.items(s.Items)
	}
	for name := range a.states[0].values {
		if a.states[0].vars[name] == nil {
			p.values[name] = func(t int) []int { return a.states[a.chosen(t).state].values[name](t) }
		}
	}
}

// since is the last tick at which the state was begun anew.
func (a *machine) since(in *place, state, t int) int {
	least := a.around.since(t)
	if in.without == "life of a state" {
		least = 0
	}
	for u := t; u >= least && in.without != "mark"; u-- {
		if in.active(u) && a.chosen(u) == (mode{state, true}) {
			return u
		}
	}
	return least
}

func (a *machine) choose(t int) mode {
	p, now := a.around, mode{}
	least := p.since(t)
	if p.without == "state of an automaton" {
		least = 0
	}
	for u := t - 1; u >= least; u-- {
		if p.active(u) {
			now = a.after(u)
			break
		}
	}
	return a.move(now, p, a.list[now.state].Unless, t, true)
}

// after is what an automaton is in when an activation has ended.
func (a *machine) after(t int) mode {
	now := a.chosen(t)
	if a.around.without != "mark taken away" {
		now.mark = false
	}
	return a.move(now, a.states[now.state], a.list[now.state].Until, t, false)
}

func (a *machine) move(now mode, p *place, list []api.Trans, t int, strong bool) mode {
	for i := range list {
		trans := list[i]
		if p.without == "first condition" {
			trans = list[len(list)-1-i]
		}
		if p.term(trans.Cond, nil).told(t)[0] == 0 {
			continue
		}
		mark := !trans.Cont
		switch {
		case p.without == "continue of unless" && strong, p.without == "continue of until" && !strong:
			mark = true
		case p.without == "then of unless" && strong, p.without == "then of until" && !strong:
			mark = false
		case p.without == "continue takes away" && trans.Cont:
			mark = now.mark
		}
		to := slices.IndexFunc(a.list, func(s api.State) bool { return s.Name == trans.To })
		if p.without == "unless" && strong || p.without == "until" && !strong {
			return now
		}
		return mode{to, mark}
	}
	return now
}

func (p *place) term(e api.Exp, clock []api.Edge) *term {
	t := &term{place: p, e: e, clock: clock}
	for i, kid := range e.Kids {
		on := clock
		if e.Form == api.EWhen && p.without != "when" || e.Form == api.EMerge && p.without != "merge" {
			on = p.find(e.Name).Clock
		}
		if e.Form == api.EMerge && p.without != "merge" {
			on = append(slices.Clone(on), api.Edge{Name: e.Name, On: i == 0})
		}
		made := p.term(kid, on)
		made.only = t.only
		t.kids = append(t.kids, made)
	}
	t.kind = t.kindOf()
	t.restrict()
	t.told = noted(t.rule())
	return t
}

func (t *term) kindOf() int {
	switch t.e.Form {
	case api.ELit, api.ECast:
		return t.e.T.Kind
	case api.EVar:
		return t.find(t.e.Name).T.Kind
	case api.ETick:
		return api.Bool
	case api.EBin:
		_, kind, _ := bv.Bin(t.e.Sub, t.kids[0].kind, 0, 0)
		return kind
	case api.ECall, api.EReset, api.EMap, api.EFold:
		return t.node(t.e.Name).Outs[0].T.Kind
	}
	return t.kids[len(t.kids)-1].kind
}

// restrict lets kids be active only where their values are needed, if that is the rule that is left out.
func (t *term) restrict() {
	only := func(kid int, f func(now int) bool) {
		for _, k := range t.kids[kid].all() {
			before := k.only
			k.only = func(now int) bool { return (before == nil || before(now)) && t.isActive(now) && f(now) }
		}
	}
	switch {
	case t.e.Form == api.EIf && t.without == "if":
		only(1, func(now int) bool { return t.kids[0].told(now)[0] == 1 })
		only(2, func(now int) bool { return t.kids[0].told(now)[0] == 0 })
	case t.e.Form == api.EArrow && t.without == "arrow":
		only(1, func(now int) bool { return t.last(now) >= 0 })
	}
}

func (t *term) all() []*term {
	all := []*term{t}
	for _, k := range t.kids {
		all = append(all, k.all()...)
	}
	return all
}

func (t *term) isActive(now int) bool {
	return t.place.active(now) && t.holds(t.clock, now) && (t.only == nil || t.only(now))
}

// last is the activation ahead of this one in this life, -1 of the first one.
func (t *term) last(now int) int {
	for u := now - 1; u >= t.place.since(now); u-- {
		if t.isActive(u) || t.without == "pre's activation" && t.e.Form != api.EArrow && t.place.active(u) {
			return u
		}
	}
	return -1
}

func (t *term) kid(i, now int) []int { return t.kids[i].told(now) }

// rule is what the value at a tick is at which the part is active.
func (t *term) rule() func(now int) []int {
	switch t.e.Form {
	case api.ELit:
		return func(int) []int { return []int{t.e.N} }
	case api.EVar:
		v := t.find(t.e.Name)
		return func(now int) []int { return v.value(now) }
	case api.EUn:
		return func(now int) []int { return known(bv.Un(t.e.Sub, t.kind, t.kid(0, now)[0])) }
	case api.EBin:
		return func(now int) []int {
			n, _, ok := bv.Bin(t.e.Sub, t.kids[0].kind, t.kid(0, now)[0], t.kid(1, now)[0])
			return known(n, ok)
		}
	case api.ECast:
		return func(now int) []int { return known(bv.Cast(t.kids[0].kind, t.kind, t.kid(0, now)[0])) }
	case api.EIf:
		return func(now int) []int { return t.kid(2-t.kid(0, now)[0], now) }
	case api.EWhen:
		return func(now int) []int { return t.kid(0, now) }
	case api.EMerge:
		return func(now int) []int { return t.kid(1-t.find(t.e.Name).value(now)[0], now) }
	case api.EArr:
		return func(now int) (all []int) {
			for i := range t.kids {
				all = append(all, t.kid(i, now)[0])
			}
			return all
		}
	case api.EIndex:
		return func(now int) []int { return t.kid(0, now)[t.e.N : t.e.N+1] }
	case api.ERep:
		return func(now int) []int { return slices.Repeat(t.kid(0, now), t.e.N) }
	case api.ECall, api.EReset:
		return t.call()
	case api.EMap:
		return t.mapped()
	case api.EFold:
		return t.folded()
	}
	return t.remembered
}

func known(n int, ok bool) []int {
	if !ok {
		panic("no such operation")
	}
	return []int{n}
}

// remembered is of a part that had no value one that must not be seen.
func (t *term) remembered(now int) []int {
	last := t.last(now)
	switch {
	case t.e.Form == api.ETick:
		return t.tick(now)
	case t.e.Form == api.EPre && last < 0:
		return slices.Repeat([]int{1}, 16)
	case t.e.Form == api.EPre:
		return t.kid(0, last)
	case last < 0:
		return t.kid(0, now)
	case t.e.Form == api.EArrow:
		return t.kid(1, now)
	}
	return t.kid(1, last)
}

func (t *term) tick(now int) []int {
	count := 0
	for u := t.place.since(now); u < now; u++ {
		if t.isActive(u) || t.without == "tick's activations" {
			count++
		}
	}
	if t.without == "tick's beginning" {
		count = now
	}
	if count%t.e.N == t.e.M {
		return []int{1}
	}
	return []int{0}
}

// called is an instance that this part has.
func (t *term) called(ins func(now int) []int, again func(now int) bool) func(now int) []int {
	since := func(now int) int {
		least := t.place.since(now)
		if t.without == "life of a call" {
			least = 0
		}
		for u := now; u >= least; u-- {
			if t.isActive(u) && again(u) && (t.without != "reset from then on" || u < now) {
				return u
			}
		}
		return least
	}
	return t.instance(t.e.Name, t.isActive, since, ins)
}

func never(int) bool { return false }

func (t *term) call() func(now int) []int {
	args, again := t.kids, never
	if t.e.Form == api.EReset {
		last := len(t.kids) - 1
		cond := t.kids[last]
		args = t.kids[:last]
		again = func(now int) bool { return cond.told(now)[0] == 1 && t.without != "reset" }
	}
	return t.called(func(now int) (all []int) {
		for _, a := range args {
			all = append(all, a.told(now)...)
		}
		return all
	}, again)
}

// count is how many elements a part has at a tick: as many at each.
func (t *term) count() int {
	switch t.e.Form {
	case api.EVar:
		return size(t.find(t.e.Name).T)
	case api.ECall, api.EReset:
		return size(t.node(t.e.Name).Outs[0].T)
	case api.EArr:
		return len(t.kids)
	case api.ERep:
		return t.e.N
	}
	return t.kids[len(t.kids)-1].count()
}

func (t *term) mapped() func(now int) []int {
	var calls []func(now int) []int
	for i := range t.kids[0].count() {
		calls = append(calls, t.called(func(now int) (all []int) {
			for k := range t.kids {
				all = append(all, t.kid(k, now)[i])
			}
			return all
		}, never))
	}
	return func(now int) (all []int) {
		for i := range calls {
			if t.without == "map" {
				i = 0
			}
			all = append(all, calls[i](now)...)
		}
		return all
	}
}

func (t *term) folded() func(now int) []int {
	value := func(now int) []int { return t.kid(0, now) }
	count := t.kids[1].count()
	for i := range count {
		if t.without == "fold" {
			i = count - 1 - i
		}
		ahead := value
		value = t.called(func(now int) []int { return []int{ahead(now)[0], t.kid(1, now)[i]} }, never)
	}
	return value
}

// meaning is what a node answers, tick by tick.
func meaning(p api.Program, node string, ticks [][]int, without string) (all [][]int) {
	o := &oracle{p, without}
	outs := o.instance(node, always, func(int) int { return 0 }, func(t int) []int { return ticks[t] })
	for t := range ticks {
		all = append(all, outs(t))
	}
	return all
}
