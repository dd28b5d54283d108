package flat_test

import (
	"math/rand"
	"slices"
	"strconv"

	"metronome/api"
	"metronome/bv"
	"metronome/gram"
)

// maker makes programs that all checks take.
type maker struct {
	r     *rand.Rand
	kinds []int // few of them, so that variables are found
	nodes []api.Node
	given int // how many of these were not made
	count int
}

func pick[T any](m *maker, list []T) T { return list[m.r.Intn(len(list))] }

func kind(k int) api.Type { return api.Type{Kind: k} }

func array(k, n int) api.Type { return api.Type{Kind: k, Len: n} }

// spot is where an expression stands.
type spot struct {
	now    []api.Var // what it may use
	any    []api.Var // what it may use one activation late
	clock  []api.Edge
	late   bool // its first value is not looked at
	simple bool // it has no memory
}

func (s spot) early() spot { s.late = false; return s }

func (s spot) behind() spot { s.late, s.now = false, s.any; return s }

func (s spot) masked() spot { s.late = true; return s }

func (s spot) on(clock []api.Edge) spot { s.clock = clock; return s }

func (m *maker) anyKind() int { return pick(m, m.kinds) }

// value is often a small one, so that values meet.
func (m *maker) value(kind int) int {
	return pick(m, []int{bv.Wrap(kind, m.r.Intn(3)), bv.Wrap(kind, m.r.Intn(3)), bv.Wrap(kind, -1-m.r.Intn(2)), bv.Wrap(kind, int(m.r.Uint64()))})
}

func (m *maker) anyType() api.Type {
	t := kind(m.anyKind())
	if m.r.Intn(3) == 0 {
		t.Len = 1 + m.r.Intn(3)
	}
	return t
}

func (m *maker) named(s spot, t api.Type) (found []api.Var) {
	for _, v := range s.now {
		if v.T == t && slices.Equal(v.Clock, s.clock) {
			found = append(found, v)
		}
	}
	return found
}

func types(vars []api.Var) (all []api.Type) {
	for _, v := range vars {
		all = append(all, v.T)
	}
	return all
}

func (m *maker) exp(s spot, t api.Type, size int) api.Exp {
	forms := []func(spot, api.Type, int) (api.Exp, bool){m.variable, m.unary, m.binary, m.choice, m.choice, m.sampled, m.sampled, m.sampled, m.sampled, m.merged, m.cast, m.element, m.element, m.elements, m.elements, m.tick, m.before, m.begun, m.begun, m.call, m.call, m.mapped, m.mapped}
	if s.simple {
		forms = forms[:15]
	}
	for range 20 {
		if size <= 0 {
			break
		}
		if e, ok := pick(m, forms)(s, t, size-1); ok {
			return e
		}
	}
	return m.leaf(s, t)
}

// leaf is a variable, if there is one.
func (m *maker) leaf(s spot, t api.Type) api.Exp {
	if e, ok := m.variable(s, t, 0); ok && m.r.Intn(6) > 0 {
		return e
	}
	if m.r.Intn(6) > 0 {
		if e, ok := m.sampled(s, t, 0); ok {
			return e
		}
	}
	if e, ok := m.elements(s, t, 0); ok && m.r.Intn(6) > 0 {
		return e
	}
	return m.literal(t)
}

func (m *maker) kids(s spot, size int, types ...api.Type) (kids []api.Exp) {
	for _, t := range types {
		kids = append(kids, m.exp(s, t, size))
	}
	return kids
}

func (m *maker) literal(t api.Type) api.Exp {
	e := api.Exp{Form: api.ELit, T: kind(t.Kind), N: m.value(t.Kind)}
	if t.Len > 0 {
		e = api.Exp{Form: api.ERep, N: t.Len, Kids: []api.Exp{e}}
	}
	return e
}

func (m *maker) variable(s spot, t api.Type, size int) (api.Exp, bool) {
	if found := m.named(s, t); len(found) > 0 {
		return api.Exp{Form: api.EVar, Name: pick(m, found).Name}, true
	}
	return api.Exp{}, false
}

func (m *maker) unary(s spot, t api.Type, size int) (api.Exp, bool) {
	ops := []int{api.OpNot, api.OpNeg}
	if t.Kind == api.Bool {
		ops = ops[:1]
	}
	return api.Exp{Form: api.EUn, Sub: pick(m, ops), Kids: m.kids(s, size, t)}, t.Len == 0
}

func (m *maker) binary(s spot, t api.Type, size int) (api.Exp, bool) {
	of, op := kind(m.anyKind()), 0
	switch {
	case t.Kind != api.Bool:
		of, op = t, pick(m, []int{api.OpAdd, api.OpSub, api.OpMul, api.OpDiv, api.OpMod, api.OpAnd, api.OpOr, api.OpXor, api.OpShl, api.OpShr})
	case of.Kind == api.Bool:
		op = pick(m, []int{api.OpEq, api.OpNe, api.OpAnd, api.OpOr, api.OpXor, api.OpImp})
	default:
		op = pick(m, []int{api.OpEq, api.OpNe, api.OpLt, api.OpLe, api.OpGt, api.OpGe})
	}
	return api.Exp{Form: api.EBin, Sub: op, Kids: m.kids(s, size, of, of)}, t.Len == 0
}

func (m *maker) choice(s spot, t api.Type, size int) (api.Exp, bool) {
	return api.Exp{Form: api.EIf, Kids: m.kids(s, size, kind(api.Bool), t, t)}, true
}

func (m *maker) sampled(s spot, t api.Type, size int) (api.Exp, bool) {
	last := len(s.clock) - 1
	if last < 0 {
		return api.Exp{}, false
	}
	e := api.Exp{Form: api.EWhen, Name: s.clock[last].Name, Kids: m.kids(s.on(s.clock[:last]), size, t)}
	if s.clock[last].On {
		e.N = 1
	}
	return e, true
}

func (m *maker) merged(s spot, t api.Type, size int) (api.Exp, bool) {
	found := m.named(s, kind(api.Bool))
	if len(found) == 0 {
		return api.Exp{}, false
	}
	e := api.Exp{Form: api.EMerge, Name: pick(m, found).Name}
	for _, on := range []bool{true, false} {
		e.Kids = append(e.Kids, m.exp(s.early().on(append(slices.Clone(s.clock), api.Edge{Name: e.Name, On: on})), t, size))
	}
	return e, true
}

func (m *maker) cast(s spot, t api.Type, size int) (api.Exp, bool) {
	return api.Exp{Form: api.ECast, T: t, Kids: m.kids(s, size, kind(m.anyKind()))}, t.Len == 0
}

func (m *maker) element(s spot, t api.Type, size int) (api.Exp, bool) {
	n := 1 + m.r.Intn(3)
	return api.Exp{Form: api.EIndex, N: m.r.Intn(n), Kids: m.kids(s, size, array(t.Kind, n))}, t.Len == 0
}

func (m *maker) elements(s spot, t api.Type, size int) (api.Exp, bool) {
	if t.Len == 0 {
		return api.Exp{}, false
	}
	if m.r.Intn(2) == 0 {
		return api.Exp{Form: api.ERep, N: t.Len, Kids: m.kids(s, size, kind(t.Kind))}, true
	}
	return api.Exp{Form: api.EArr, Kids: m.kids(s, size, slices.Repeat([]api.Type{kind(t.Kind)}, t.Len)...)}, true
}

func (m *maker) tick(s spot, t api.Type, size int) (api.Exp, bool) {
	n := 1 + m.r.Intn(4)
	return api.Exp{Form: api.ETick, N: n, M: m.r.Intn(n)}, t == kind(api.Bool)
}

func (m *maker) before(s spot, t api.Type, size int) (api.Exp, bool) {
	if !s.late {
		return api.Exp{}, false
	}
	return api.Exp{Form: api.EPre, Kids: m.kids(s.behind(), size, t)}, true
}

func (m *maker) begun(s spot, t api.Type, size int) (api.Exp, bool) {
	if m.r.Intn(2) == 0 {
		return api.Exp{Form: api.EFby, Kids: append(m.kids(s, size, t), m.kids(s.behind(), size, t)...)}, true
	}
	second := m.exp(s.masked(), t, size)
	if m.r.Intn(2) == 0 {
		second, _ = m.before(s.masked(), t, size)
	}
	return api.Exp{Form: api.EArrow, Kids: append(m.kids(s, size, t), second)}, true
}

func (m *maker) callable(more func(api.Node) bool, outs ...api.Type) (found []api.Node) {
	for _, n := range m.nodes {
		if slices.Equal(types(n.Outs), outs) && more(n) {
			found = append(found, n)
		}
	}
	return found
}

func (m *maker) call(s spot, t api.Type, size int) (api.Exp, bool) {
	found := m.callable(func(api.Node) bool { return true }, t)
	if len(found) == 0 {
		return api.Exp{}, false
	}
	return m.called(s, pick(m, found), size), true
}

func (m *maker) called(s spot, n api.Node, size int) api.Exp {
	e := api.Exp{Form: api.ECall, Name: n.Name, Kids: m.kids(s.early(), size, types(n.Ins)...)}
	if m.r.Intn(2) == 0 {
		e.Form, e.Kids = api.EReset, append(e.Kids, m.exp(s.early(), kind(api.Bool), size))
	}
	return e
}

func plain(n api.Node) bool {
	return len(n.Ins) > 0 && !slices.ContainsFunc(n.Ins, func(v api.Var) bool { return v.T.Len > 0 })
}

func (m *maker) mapped(s spot, t api.Type, size int) (api.Exp, bool) {
	more := plain
	if t.Len == 0 {
		more = func(n api.Node) bool { return plain(n) && len(n.Ins) == 2 && n.Ins[0].T == n.Outs[0].T }
	}
	found := m.callable(more, kind(t.Kind))
	if len(found) == 0 {
		return api.Exp{}, false
	}
	n := pick(m, found)
	ins := types(n.Ins)
	if t.Len == 0 {
		ins[1].Len = 1 + m.r.Intn(3)
		return api.Exp{Form: api.EFold, Name: n.Name, Kids: m.kids(s.early(), size, ins...)}, true
	}
	for i := range ins {
		ins[i].Len = t.Len
	}
	return api.Exp{Form: api.EMap, Name: n.Name, Kids: m.kids(s.early(), size, ins...)}, true
}

func (m *maker) vars(ahead string, least, most int) (vars []api.Var) {
	for range least + m.r.Intn(most-least+1) {
		m.count++
		vars = append(vars, api.Var{Name: ahead + strconv.Itoa(m.count), T: m.anyType()})
	}
	return vars
}

// clocked gives some variables a clock of those ahead of them.
func (m *maker) clocked(there, vars []api.Var, may func(api.Var) bool) {
	for i, v := range vars {
		var found []api.Var
		for _, c := range slices.Concat(there, vars[:i]) {
			if c.T == kind(api.Bool) && c.Name != v.Name {
				found = append(found, c)
			}
		}
		if may(v) && len(found) > 0 && m.r.Intn(2) == 0 {
			c := pick(m, found)
			vars[i].Clock = append(slices.Clone(c.Clock), api.Edge{Name: c.Name, On: m.r.Intn(2) == 0})
		}
	}
}

func varNames(vars []api.Var) (all []string) {
	for _, v := range vars {
		all = append(all, v.Name)
	}
	return all
}

func isBase(v api.Var) bool { return len(v.Clock) == 0 }

// items define variables, each of which uses those ahead of it.
func (m *maker) items(now, all, own []api.Var, deep int) (items []api.Item) {
	now = slices.Clone(now)
	for len(own) > 0 {
		n := min(1+m.r.Intn(2), len(own))
		s := spot{now: now, any: all, clock: own[0].Clock}
		found := m.callable(func(api.Node) bool { return true }, types(own[:n])...)
		alike := n == 1 || slices.Equal(own[0].Clock, own[1].Clock)
		switch {
		case deep > 0 && m.r.Intn(3) == 0 && !slices.ContainsFunc(own[:n], func(v api.Var) bool { return !isBase(v) }):
			items = append(items, m.automaton(s, own[:n], deep-1))
		case alike && len(found) > 0 && m.r.Intn(3) > 0:
			items = append(items, api.Item{Names: varNames(own[:n]), E: m.called(s, pick(m, found), 2)})
		default:
			n = 1
			items = append(items, api.Item{Names: varNames(own[:1]), E: m.exp(s, own[0].T, 3)})
		}
		now, own = append(now, own[:n]...), own[n:]
	}
	m.r.Shuffle(len(items), func(i, j int) { items[i], items[j] = items[j], items[i] })
	return items
}

// base are the variables that may be used within states.
func (m *maker) base(vars []api.Var) []api.Var {
	return slices.DeleteFunc(slices.Clone(vars), func(v api.Var) bool { return !isBase(v) })
}

func (m *maker) automaton(s spot, own []api.Var, deep int) (i api.Item) {
	now, all := m.base(s.now), m.base(s.any)
	states := 1 + m.r.Intn(3)
	for n := range states {
		locals := m.vars("s", 0, 2)
		mine := slices.Clone(own)
		for _, v := range locals {
			mine = slices.Insert(mine, m.r.Intn(len(mine)+1), v)
		}
		isLocal := func(v api.Var) bool {
			return slices.ContainsFunc(locals, func(l api.Var) bool { return l.Name == v.Name })
		}
		m.clocked(now, mine, isLocal)
		locals = slices.DeleteFunc(slices.Clone(mine), func(v api.Var) bool { return !isLocal(v) })
		inner := slices.Concat(all, locals)
		state := api.State{Name: "S" + strconv.Itoa(n), Locals: locals, Unless: m.transitions(now, states)}
		state.Items = m.items(now, inner, mine, deep)
		state.Until = m.transitions(inner, states)
		i.States = append(i.States, state)
	}
	return i
}

func (m *maker) transitions(now []api.Var, states int) (list []api.Trans) {
	for range m.r.Intn(3) {
		s := spot{now: now, any: now, simple: true}
		list = append(list, api.Trans{Cond: m.exp(s, kind(api.Bool), 2), To: "S" + strconv.Itoa(m.r.Intn(states)), Cont: m.r.Intn(2) == 0})
	}
	return list
}

// Nodes that are there to be called.
const helpers = `node acc(x: i8) returns (y: i8) let y = x + (0i8 -> pre y); tel
node edge(b: bool) returns (c: bool) let c = b -> b and not pre b; tel
node add(a, b: i8) returns (c: i8) let c = a + b + (0i8 fby (c + 1i8)); tel
node either(a, b: bool) returns (c: bool) let c = a xor b xor tick(3, 1); tel
node less(a, b: i8) returns (c: bool) let c = a < b; tel
node count(n: u16; b: bool) returns (m: u16) let m = n + (if b then 1u16 else 0u16) + (0u16 fby m); tel
node swap(a: i8^2) returns (b: i8^2) let b = [a[1], a[0] + (1i8 -> pre b[0])]; tel
node spread(i: i8; b: bool) returns (a: i8^3; c: bool) let a = rep(i, 3) fby [a[1], a[2], i]; c = b; tel
node both(i: i8; b: bool) returns (j: i8; c: bool) let j = if b then i else 0i8; c = not b; tel
node flags(a: bool^2) returns (b: bool^3) let b = [a[0], a[0] and a[1], false -> pre a[1]]; tel
node only(i: u16) returns (a: u16^1) let a = [i] -> pre a; tel
node total(a: i8^3) returns (n: i8) let n = fold(add, 0i8, a); tel
`

func (m *maker) program() api.Program {
	p, _, _ := gram.Parse(helpers)
	m.nodes, m.given = slices.Clone(p.Nodes), len(p.Nodes)
	m.kinds = []int{api.Bool, api.Bool, api.Bool, api.I8, api.I8, 1 + m.r.Intn(api.U64)}
	for n := range 1 + m.r.Intn(3) {
		m.count = 0
		node := api.Node{Name: "f" + strconv.Itoa(n), Ins: m.vars("x", 1, 4), Outs: m.vars("y", 1, 2)}
		own := slices.Concat(node.Outs, m.vars("l", 0, 4))
		m.r.Shuffle(len(own), func(i, j int) { own[i], own[j] = own[j], own[i] })
		isLocal := func(v api.Var) bool { return v.Name[0] == 'l' }
		m.clocked(node.Ins, own, isLocal)
		node.Locals = slices.DeleteFunc(slices.Clone(own), func(v api.Var) bool { return !isLocal(v) })
		all := slices.Concat(node.Ins, own)
		node.Items = m.items(node.Ins, all, own, 2)
		m.nodes = append(m.nodes, node)
	}
	return api.Program{Nodes: m.nodes}
}

// ticks are values of a node's inputs, element by element.
func (m *maker) ticks(n api.Node, count int) (ticks [][]int) {
	for range count {
		values := []int{}
		for _, v := range n.Ins {
			for range max(1, v.T.Len) {
				values = append(values, m.value(v.T.Kind))
			}
		}
		ticks = append(ticks, values)
	}
	return ticks
}
