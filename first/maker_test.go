package first

import (
	"math/rand"
	"slices"
	"strconv"

	"metronome/api"
	"metronome/gram"
)

// maker makes programs that the checks ahead of this one take, and in which no value is read that is not there at first, but for some: odd says how often, in a thousand, it is not looked at whether an expression may be late. If it is loose, conditions have memory, too, which names.Check does not take.
type maker struct {
	r     *rand.Rand
	odd   int
	loose bool
	nodes []api.Node
	count int
}

func (m *maker) oddly() bool { return m.r.Intn(1000) < m.odd }

func pick[T any](m *maker, list []T) T { return list[m.r.Intn(len(list))] }

func kind(k int) api.Type { return api.Type{Kind: k} }

func array(k, n int) api.Type { return api.Type{Kind: k, Len: n} }

// spot is where an expression stands.
type spot struct {
	vars   []api.Var // what it may use
	clock  []api.Edge
	simple bool // it has no memory
	late   bool // it may be late
}

func (s spot) on(clock []api.Edge) spot { s.clock = clock; return s }

func (s spot) mayBe(late bool) spot { s.late = late; return s }

func (m *maker) anyType() api.Type {
	t := kind(pick(m, []int{api.Bool, api.Bool, api.I8, api.I8, api.U16}))
	if m.r.Intn(3) == 0 {
		t.Len = 1 + m.r.Intn(3)
	}
	return t
}

func (m *maker) named(s spot, t api.Type) (found []api.Var) {
	for _, v := range s.vars {
		if v.T == t && slices.Equal(v.Clock, s.clock) {
			found = append(found, v)
		}
	}
	return found
}

func types(vars []api.Var) (all []api.Type) {
	for _, v := range vars {
		all = append(all, v.T)
	}
	return all
}

func (m *maker) exp(s spot, t api.Type, size int) api.Exp {
	forms := []func(spot, api.Type, int) (api.Exp, bool){m.variable, m.unary, m.binary, m.choice, m.choice, m.sampled, m.sampled, m.merged, m.cast, m.element, m.element, m.elements, m.elements, m.tick, m.before, m.begun, m.begun, m.call, m.call, m.mapped, m.mapped}
	if s.simple {
		forms = forms[:13]
	}
	for range 20 {
		if size <= 0 {
			break
		}
		if e, ok := pick(m, forms)(s, t, size-1); ok {
			return e
		}
	}
	return m.leaf(s, t)
}

// leaf is a variable, if there is one.
func (m *maker) leaf(s spot, t api.Type) api.Exp {
	if e, ok := m.variable(s, t, 0); ok && m.r.Intn(6) > 0 {
		return e
	}
	if m.r.Intn(6) > 0 {
		if e, ok := m.sampled(s, t, 0); ok {
			return e
		}
	}
	if e, ok := m.elements(s, t, 0); ok && m.r.Intn(6) > 0 {
		return e
	}
	return m.literal(t)
}

func (m *maker) kids(s spot, size int, types ...api.Type) (kids []api.Exp) {
	for _, t := range types {
		kids = append(kids, m.exp(s, t, size))
	}
	return kids
}

func (m *maker) literal(t api.Type) api.Exp {
	e := api.Exp{Form: api.ELit, T: kind(t.Kind), N: m.r.Intn(2)}
	if t.Len > 0 {
		e = api.Exp{Form: api.ERep, N: t.Len, Kids: []api.Exp{e}}
	}
	return e
}

func (m *maker) variable(s spot, t api.Type, size int) (api.Exp, bool) {
	if found := m.named(s, t); len(found) > 0 {
		return api.Exp{Form: api.EVar, Name: pick(m, found).Name}, true
	}
	return api.Exp{}, false
}

func (m *maker) unary(s spot, t api.Type, size int) (api.Exp, bool) {
	return api.Exp{Form: api.EUn, Sub: api.OpNot, Kids: m.kids(s, size, t)}, t.Len == 0
}

func (m *maker) binary(s spot, t api.Type, size int) (api.Exp, bool) {
	if t.Kind == api.Bool {
		of := kind(pick(m, []int{api.Bool, api.I8, api.U16}))
		return api.Exp{Form: api.EBin, Sub: pick(m, []int{api.OpEq, api.OpNe}), Kids: m.kids(s, size, of, of)}, t.Len == 0
	}
	return api.Exp{Form: api.EBin, Sub: pick(m, []int{api.OpAdd, api.OpSub, api.OpXor}), Kids: m.kids(s, size, t, t)}, t.Len == 0
}

func (m *maker) choice(s spot, t api.Type, size int) (api.Exp, bool) {
	return api.Exp{Form: api.EIf, Kids: m.kids(s, size, kind(api.Bool), t, t)}, true
}

func (m *maker) sampled(s spot, t api.Type, size int) (api.Exp, bool) {
	last := len(s.clock) - 1
	if last < 0 {
		return api.Exp{}, false
	}
	e := api.Exp{Form: api.EWhen, Name: s.clock[last].Name, Kids: m.kids(s.on(s.clock[:last]), size, t)}
	if s.clock[last].On {
		e.N = 1
	}
	return e, true
}

func (m *maker) merged(s spot, t api.Type, size int) (api.Exp, bool) {
	found := m.named(s, kind(api.Bool))
	if len(found) == 0 {
		return api.Exp{}, false
	}
	e := api.Exp{Form: api.EMerge, Name: pick(m, found).Name}
	for _, on := range []bool{true, false} {
		e.Kids = append(e.Kids, m.exp(s.mayBe(false).on(append(slices.Clone(s.clock), api.Edge{Name: e.Name, On: on})), t, size))
	}
	return e, true
}

func (m *maker) cast(s spot, t api.Type, size int) (api.Exp, bool) {
	return api.Exp{Form: api.ECast, T: t, Kids: m.kids(s, size, kind(pick(m, []int{api.Bool, api.I8, api.U16})))}, t.Len == 0
}

func (m *maker) element(s spot, t api.Type, size int) (api.Exp, bool) {
	n := 1 + m.r.Intn(3)
	return api.Exp{Form: api.EIndex, N: m.r.Intn(n), Kids: m.kids(s, size, array(t.Kind, n))}, t.Len == 0
}

func (m *maker) elements(s spot, t api.Type, size int) (api.Exp, bool) {
	if t.Len == 0 {
		return api.Exp{}, false
	}
	if m.r.Intn(2) == 0 {
		return api.Exp{Form: api.ERep, N: t.Len, Kids: m.kids(s, size, kind(t.Kind))}, true
	}
	return api.Exp{Form: api.EArr, Kids: m.kids(s, size, slices.Repeat([]api.Type{kind(t.Kind)}, t.Len)...)}, true
}

func (m *maker) tick(s spot, t api.Type, size int) (api.Exp, bool) {
	return api.Exp{Form: api.ETick, N: 2 + m.r.Intn(2), M: m.r.Intn(2)}, t == kind(api.Bool)
}

func (m *maker) before(s spot, t api.Type, size int) (api.Exp, bool) {
	return api.Exp{Form: api.EPre, Kids: m.kids(s.mayBe(false), size, t)}, s.late || m.oddly()
}

func (m *maker) begun(s spot, t api.Type, size int) (api.Exp, bool) {
	if m.r.Intn(2) == 0 {
		return api.Exp{Form: api.EFby, Kids: []api.Exp{m.exp(s, t, size), m.exp(s.mayBe(false), t, size)}}, true
	}
	return api.Exp{Form: api.EArrow, Kids: []api.Exp{m.exp(s, t, size), m.exp(s.mayBe(true), t, size)}}, true
}

func (m *maker) callable(more func(api.Node) bool, outs ...api.Type) (found []api.Node) {
	for _, n := range m.nodes {
		if slices.Equal(types(n.Outs), outs) && more(n) {
			found = append(found, n)
		}
	}
	return found
}

func (m *maker) call(s spot, t api.Type, size int) (api.Exp, bool) {
	found := m.callable(func(api.Node) bool { return true }, t)
	if len(found) == 0 {
		return api.Exp{}, false
	}
	return m.called(s, pick(m, found), size), true
}

func (m *maker) called(s spot, n api.Node, size int) api.Exp {
	s = s.mayBe(false)
	e := api.Exp{Form: api.ECall, Name: n.Name, Kids: m.kids(s, size, types(n.Ins)...)}
	if m.r.Intn(2) == 0 {
		e.Form, e.Kids = api.EReset, append(e.Kids, m.exp(s, kind(api.Bool), size))
	}
	return e
}

func plain(n api.Node) bool {
	return len(n.Ins) > 0 && !slices.ContainsFunc(n.Ins, func(v api.Var) bool { return v.T.Len > 0 })
}

func (m *maker) mapped(s spot, t api.Type, size int) (api.Exp, bool) {
	more := plain
	if t.Len == 0 {
		more = func(n api.Node) bool { return plain(n) && len(n.Ins) == 2 && n.Ins[0].T == n.Outs[0].T }
	}
	found := m.callable(more, kind(t.Kind))
	if len(found) == 0 {
		return api.Exp{}, false
	}
	n := pick(m, found)
	s = s.mayBe(false)
	ins := types(n.Ins)
	if t.Len == 0 {
		ins[1].Len = 1 + m.r.Intn(3)
		return api.Exp{Form: api.EFold, Name: n.Name, Kids: m.kids(s, size, ins...)}, true
	}
	for i := range ins {
		ins[i].Len = t.Len
	}
	return api.Exp{Form: api.EMap, Name: n.Name, Kids: m.kids(s, size, ins...)}, true
}

func (m *maker) vars(ahead string, least, most int) (vars []api.Var) {
	for range least + m.r.Intn(most-least+1) {
		m.count++
		vars = append(vars, api.Var{Name: ahead + strconv.Itoa(m.count), T: m.anyType()})
	}
	return vars
}

// clocked gives some variables a clock of those ahead of them.
func (m *maker) clocked(there, vars []api.Var) {
	for i := range vars {
		var found []api.Var
		for _, c := range slices.Concat(there, vars[:i]) {
			if c.T == kind(api.Bool) {
				found = append(found, c)
			}
		}
		if len(found) > 0 && m.r.Intn(2) == 0 {
			c := pick(m, found)
			vars[i].Clock = append(slices.Clone(c.Clock), api.Edge{Name: c.Name, On: m.r.Intn(2) == 0})
		}
	}
}

func varNames(vars []api.Var) (all []string) {
	for _, v := range vars {
		all = append(all, v.Name)
	}
	return all
}

func (m *maker) items(all, own []api.Var, deep int) (items []api.Item) {
	for len(own) > 0 {
		n := min(1+m.r.Intn(2), len(own))
		s := spot{vars: all, clock: own[0].Clock}
		found := m.callable(func(api.Node) bool { return true }, types(own[:n])...)
		switch {
		case deep > 0 && m.r.Intn(4) == 0 && len(onBase(own[:n])) == n:
			items = append(items, m.automaton(s, own[:n], deep-1))
		case len(found) > 0 && m.r.Intn(3) > 0 && (n == 1 || slices.Equal(own[0].Clock, own[1].Clock)):
			items = append(items, api.Item{Names: varNames(own[:n]), E: m.called(s, pick(m, found), 2)})
		default:
			n = 1
			items = append(items, api.Item{Names: varNames(own[:1]), E: m.exp(s, own[0].T, 3)})
		}
		own = own[n:]
	}
	m.r.Shuffle(len(items), func(i, j int) { items[i], items[j] = items[j], items[i] })
	return items
}

// onBase are the variables that may be used within states.
func onBase(vars []api.Var) []api.Var {
	return slices.DeleteFunc(slices.Clone(vars), func(v api.Var) bool { return len(v.Clock) > 0 })
}

func (m *maker) automaton(s spot, own []api.Var, deep int) (i api.Item) {
	all := onBase(s.vars)
	states := 1 + m.r.Intn(3)
	for n := range states {
		locals := m.vars("s", 0, 3)
		m.clocked(all, locals)
		inner := slices.Concat(all, locals)
		state := api.State{Name: "S" + strconv.Itoa(n), Locals: locals, Unless: m.transitions(all, states)}
		state.Items = m.items(inner, slices.Concat(own, locals), deep)
		state.Until = m.transitions(inner, states)
		i.States = append(i.States, state)
	}
	return i
}

func (m *maker) transitions(vars []api.Var, states int) (list []api.Trans) {
	for range m.r.Intn(3) {
		s := spot{vars: vars, simple: !m.loose}
		list = append(list, api.Trans{Cond: m.exp(s, kind(api.Bool), 2), To: "S" + strconv.Itoa(m.r.Intn(states)), Cont: m.r.Intn(2) == 0})
	}
	return list
}

// Nodes that are there to be called.
const helpers = `node acc(x: i8) returns (y: i8) let y = x + (0i8 -> pre y); tel
node edge(b: bool) returns (c: bool) let c = b -> b and not pre b; tel
node add(a, b: i8) returns (c: i8) let c = a + b + (0i8 fby (c + 1i8)); tel
node either(a, b: bool) returns (c: bool) let c = a xor b xor tick(3, 1); tel
node swap(a: i8^2) returns (b: i8^2) let b = [a[1], a[0] + (1i8 -> pre b[0])]; tel
node spread(i: i8; b: bool) returns (a: i8^3; c: bool) let a = rep(i, 3) fby [a[1], a[2], i]; c = b; tel
node both(i: i8; b: bool) returns (j: i8; c: bool) let j = if b then i else 0i8; c = not b; tel
node twice() returns (a, b: bool) let a = true; b = tick(2, 0); tel
node none() returns (n: i8) let n = 1i8; tel
`

func (m *maker) program() api.Program {
	p, _, _ := gram.Parse(helpers)
	m.nodes = slices.Clone(p.Nodes)
	for n := range 1 + m.r.Intn(3) {
		m.count = 0
		node := api.Node{Name: "f" + strconv.Itoa(n), Ins: m.vars("i", 1, 4), Outs: m.vars("o", 1, 2), Locals: m.vars("l", 0, 5)}
		m.clocked(slices.Concat(node.Ins, node.Outs), node.Locals)
		own := slices.Concat(node.Outs, node.Locals)
		m.r.Shuffle(len(own), func(i, j int) { own[i], own[j] = own[j], own[i] })
		node.Items = m.items(slices.Concat(node.Ins, own), own, 2)
		m.nodes = append(m.nodes, node)
	}
	return api.Program{Nodes: m.nodes}
}
