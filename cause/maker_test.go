package cause

import (
	"cmp"
	"math"
	"math/rand"
	"slices"
	"strconv"

	"metronome/api"
	"metronome/gram"
)

// maker makes programs that the checks ahead of this one take, and in which no variable hangs on itself, but for some: each variable has a rank, and hangs on those of lower ranks alone; odd says how often, in a thousand, that is not looked at. Its nodes have automata that are this deep within one another.
type maker struct {
	r     *rand.Rand
	odd   int
	deep  int
	nodes []api.Node // those that can be called
	given int        // how many of these were not made
	count int
	rank  map[string]float64
}

func (m *maker) oddly() bool { return m.r.Intn(1000) < m.odd }

func pick[T any](m *maker, list []T) T { return list[m.r.Intn(len(list))] }

func kind(k int) api.Type { return api.Type{Kind: k} }

func array(k, n int) api.Type { return api.Type{Kind: k, Len: n} }

// spot is where an expression stands.
type spot struct {
	vars   []api.Var // what it may use
	clock  []api.Edge
	simple bool // it has no memory
	late   bool // it may be late
	below  float64
}

func (s spot) on(clock []api.Edge) spot { s.clock = clock; return s }

func (s spot) mayBe(late bool) spot { s.late = late; return s }

// kept is where a value is kept for the next activation: it is not late, and may be that of any variable.
func (s spot) kept() spot { s.late, s.below = false, math.Inf(1); return s }

func (m *maker) anyType() api.Type {
	t := kind(pick(m, []int{api.Bool, api.Bool, api.Bool, api.I8}))
	if m.r.Intn(8) == 0 {
		t.Len = 1 + m.r.Intn(2)
	}
	return t
}

func (m *maker) named(s spot, t api.Type) (found []api.Var) {
	for _, v := range s.vars {
		if v.T == t && m.rank[v.Name] < s.below && slices.Equal(v.Clock, s.clock) {
			found = append(found, v)
		}
	}
	return found
}

func typesOf(vars []api.Var) (all []api.Type) {
	for _, v := range vars {
		all = append(all, v.T)
	}
	return all
}

func (m *maker) exp(s spot, t api.Type, size int) api.Exp {
	forms := []func(spot, api.Type, int) (api.Exp, bool){m.variable, m.unary, m.binary, m.choice, m.choice, m.sampled, m.merged, m.merged, m.cast, m.element, m.element, m.elements, m.elements, m.tick, m.before, m.begun, m.begun, m.call, m.call, m.mapped, m.mapped}
	if s.simple {
		forms = forms[:13]
	}
	for range 20 {
		if size <= 0 {
			break
		}
		if e, ok := pick(m, forms)(s, t, size-1); ok {
			return e
		}
	}
	return m.leaf(s, t)
}

// leaf is a variable, if there is one; on a clock it names none as often.
func (m *maker) leaf(s spot, t api.Type) api.Exp {
	if e, ok := m.variable(s, t, 0); ok && m.r.Intn(6) > 0 {
		return e
	}
	if m.r.Intn(2) == 0 {
		if e, ok := m.sampled(s, t, 0); ok {
			return e
		}
	}
	return m.literal(t)
}

func (m *maker) kids(s spot, size int, types ...api.Type) (kids []api.Exp) {
	for _, t := range types {
		kids = append(kids, m.exp(s, t, size))
	}
	return kids
}

func (m *maker) literal(t api.Type) api.Exp {
	e := api.Exp{Form: api.ELit, T: kind(t.Kind), N: m.r.Intn(2)}
	if t.Len > 0 {
		e = api.Exp{Form: api.ERep, N: t.Len, Kids: []api.Exp{e}}
	}
	return e
}

func (m *maker) variable(s spot, t api.Type, size int) (api.Exp, bool) {
	if found := m.named(s, t); len(found) > 0 {
		return api.Exp{Form: api.EVar, Name: pick(m, found).Name}, true
	}
	return api.Exp{}, false
}

func (m *maker) unary(s spot, t api.Type, size int) (api.Exp, bool) {
	return api.Exp{Form: api.EUn, Sub: api.OpNot, Kids: m.kids(s, size, t)}, t.Len == 0
}

func (m *maker) binary(s spot, t api.Type, size int) (api.Exp, bool) {
	if t.Kind == api.Bool {
		of := kind(pick(m, []int{api.Bool, api.I8}))
		return api.Exp{Form: api.EBin, Sub: pick(m, []int{api.OpEq, api.OpNe}), Kids: m.kids(s, size, of, of)}, t.Len == 0
	}
	return api.Exp{Form: api.EBin, Sub: pick(m, []int{api.OpAdd, api.OpSub, api.OpXor}), Kids: m.kids(s, size, t, t)}, t.Len == 0
}

func (m *maker) choice(s spot, t api.Type, size int) (api.Exp, bool) {
	return api.Exp{Form: api.EIf, Kids: m.kids(s, size, kind(api.Bool), t, t)}, true
}

func (m *maker) sampled(s spot, t api.Type, size int) (api.Exp, bool) {
	last := len(s.clock) - 1
	if last < 0 {
		return api.Exp{}, false
	}
	e := api.Exp{Form: api.EWhen, Name: s.clock[last].Name, Kids: m.kids(s.on(s.clock[:last]), size, t)}
	if s.clock[last].On {
		e.N = 1
	}
	return e, true
}

// merged is by a variable that is one of a clock, if there is one.
func (m *maker) merged(s spot, t api.Type, size int) (api.Exp, bool) {
	found := m.named(s, kind(api.Bool))
	clocks := slices.DeleteFunc(slices.Clone(found), func(c api.Var) bool {
		return !slices.ContainsFunc(s.vars, func(v api.Var) bool {
			return len(v.Clock) > 0 && v.Clock[len(v.Clock)-1].Name == c.Name
		})
	})
	if len(clocks) > 0 && m.r.Intn(4) > 0 {
		found = clocks
	}
	if len(found) == 0 {
		return api.Exp{}, false
	}
	return m.mergedBy(s, pick(m, found).Name, t, size), true
}

func (m *maker) mergedBy(s spot, name string, t api.Type, size int) api.Exp {
	e := api.Exp{Form: api.EMerge, Name: name}
	for _, on := range []bool{true, false} {
		e.Kids = append(e.Kids, m.exp(s.mayBe(false).on(append(slices.Clone(s.clock), api.Edge{Name: name, On: on})), t, m.r.Intn(size+1)))
	}
	return e
}

func (m *maker) cast(s spot, t api.Type, size int) (api.Exp, bool) {
	return api.Exp{Form: api.ECast, T: t, Kids: m.kids(s, size, kind(pick(m, []int{api.Bool, api.I8})))}, t.Len == 0
}

func (m *maker) element(s spot, t api.Type, size int) (api.Exp, bool) {
	n := 1 + m.r.Intn(3)
	return api.Exp{Form: api.EIndex, N: m.r.Intn(n), Kids: m.kids(s, size, array(t.Kind, n))}, t.Len == 0
}

func (m *maker) elements(s spot, t api.Type, size int) (api.Exp, bool) {
	if t.Len == 0 {
		return api.Exp{}, false
	}
	if m.r.Intn(2) == 0 {
		return api.Exp{Form: api.ERep, N: t.Len, Kids: m.kids(s, size, kind(t.Kind))}, true
	}
	return api.Exp{Form: api.EArr, Kids: m.kids(s, size, slices.Repeat([]api.Type{kind(t.Kind)}, t.Len)...)}, true
}

func (m *maker) tick(s spot, t api.Type, size int) (api.Exp, bool) {
	return api.Exp{Form: api.ETick, N: 2 + m.r.Intn(2), M: m.r.Intn(2)}, t == kind(api.Bool)
}

func (m *maker) before(s spot, t api.Type, size int) (api.Exp, bool) {
	return api.Exp{Form: api.EPre, Kids: m.kids(s.kept(), size, t)}, s.late
}

func (m *maker) begun(s spot, t api.Type, size int) (api.Exp, bool) {
	if m.r.Intn(2) == 0 {
		return api.Exp{Form: api.EFby, Kids: []api.Exp{m.exp(s, t, size), m.exp(s.kept(), t, size)}}, true
	}
	return api.Exp{Form: api.EArrow, Kids: []api.Exp{m.exp(s, t, size), m.exp(s.mayBe(true), t, size)}}, true
}

func (m *maker) callable(more func(api.Node) bool, outs ...api.Type) (found []api.Node) {
	for _, n := range m.nodes {
		if slices.Equal(typesOf(n.Outs), outs) && more(n) {
			found = append(found, n)
		}
	}
	return found
}

func (m *maker) call(s spot, t api.Type, size int) (api.Exp, bool) {
	found := m.callable(func(api.Node) bool { return true }, t)
	if len(found) == 0 {
		return api.Exp{}, false
	}
	return m.called(s, pick(m, found), size), true
}

func (m *maker) called(s spot, n api.Node, size int) api.Exp {
	s = s.mayBe(false)
	e := api.Exp{Form: api.ECall, Name: n.Name, Kids: m.kids(s, size, typesOf(n.Ins)...)}
	if m.r.Intn(2) == 0 {
		e.Form, e.Kids = api.EReset, append(e.Kids, m.exp(s, kind(api.Bool), size))
	}
	return e
}

func plain(n api.Node) bool {
	return len(n.Ins) > 0 && !slices.ContainsFunc(n.Ins, func(v api.Var) bool { return v.T.Len > 0 })
}

func (m *maker) mapped(s spot, t api.Type, size int) (api.Exp, bool) {
	more := plain
	if t.Len == 0 {
		more = func(n api.Node) bool { return plain(n) && len(n.Ins) == 2 && n.Ins[0].T == n.Outs[0].T }
	}
	found := m.callable(more, kind(t.Kind))
	if len(found) == 0 {
		return api.Exp{}, false
	}
	n := pick(m, found)
	s = s.mayBe(false)
	ins := typesOf(n.Ins)
	if t.Len == 0 {
		ins[1].Len = 1 + m.r.Intn(3)
		return api.Exp{Form: api.EFold, Name: n.Name, Kids: m.kids(s, size, ins...)}, true
	}
	for i := range ins {
		ins[i].Len = t.Len
	}
	return api.Exp{Form: api.EMap, Name: n.Name, Kids: m.kids(s, size, ins...)}, true
}

func (m *maker) vars(ahead string, floor float64, least, most int) (vars []api.Var) {
	for range least + m.r.Intn(most-least+1) {
		m.count++
		v := api.Var{Name: ahead + strconv.Itoa(m.count), T: m.anyType()}
		m.rank[v.Name] = floor + 10*m.r.Float64()
		vars = append(vars, v)
	}
	return vars
}

// clocked gives some variables a clock of those of lower ranks.
func (m *maker) clocked(there, vars []api.Var) {
	places := m.r.Perm(len(vars))
	slices.SortFunc(places, func(i, j int) int { return cmp.Compare(m.rank[vars[i].Name], m.rank[vars[j].Name]) })
	there = slices.Clone(there)
	for _, i := range places {
		limit := m.limit(vars[i : i+1])
		found := slices.DeleteFunc(slices.Clone(there), func(c api.Var) bool { return c.T != kind(api.Bool) || m.rank[c.Name] >= limit })
		if len(found) > 0 && m.r.Intn(2) == 0 {
			c := pick(m, found)
			vars[i].Clock = append(slices.Clone(c.Clock), api.Edge{Name: c.Name, On: m.r.Intn(2) == 0})
		}
		there = append(there, vars[i])
	}
}

// limit is the lowest rank of these variables: they may hang on those below it.
func (m *maker) limit(vars []api.Var) float64 {
	low := math.Inf(1)
	for _, v := range vars {
		if !m.oddly() {
			low = min(low, m.rank[v.Name])
		}
	}
	return low
}

func varNames(vars []api.Var) (all []string) {
	for _, v := range vars {
		all = append(all, v.Name)
	}
	return all
}

func (m *maker) items(all, own []api.Var, deep int) (items []api.Item) {
	for len(own) > 0 {
		n := min(1+m.r.Intn(2), len(own))
		s := spot{vars: all, clock: own[0].Clock, below: m.limit(own[:n])}
		found := m.callable(func(api.Node) bool { return true }, typesOf(own[:n])...)
		switch {
		case deep > 0 && m.r.Intn(3) == 0 && len(onBase(own[:n])) == n:
			items = append(items, m.automaton(s, own[:n], deep-1))
		case len(found) > 0 && m.r.Intn(3) > 0 && (n == 1 || slices.Equal(own[0].Clock, own[1].Clock)):
			items = append(items, api.Item{Names: varNames(own[:n]), E: m.called(s, pick(m, found), 2)})
		case m.oddly() && own[0].T == kind(api.Bool):
			n, s.below = 1, math.Inf(1)
			items = append(items, api.Item{Names: varNames(own[:1]), E: m.mergedBy(s, own[0].Name, own[0].T, 1)})
		default:
			n, s.below = 1, m.limit(own[:1])
			items = append(items, api.Item{Names: varNames(own[:1]), E: m.exp(s, own[0].T, 3)})
		}
		own = own[n:]
	}
	m.r.Shuffle(len(items), func(i, j int) { items[i], items[j] = items[j], items[i] })
	return items
}

// onBase are the variables that may be used within states.
func onBase(vars []api.Var) []api.Var {
	return slices.DeleteFunc(slices.Clone(vars), func(v api.Var) bool { return len(v.Clock) > 0 })
}

// automaton has states whose locals bear the same names, where they are not within one another.
func (m *maker) automaton(s spot, own []api.Var, deep int) (i api.Item) {
	all := onBase(s.vars)
	states := 1 + m.r.Intn(3)
	count := m.count
	floor := m.limit(own) - 5*m.r.Float64() // what is within hangs on the conditions
	for n := range states {
		m.count = count
		locals := m.vars("s", min(floor, 10), 0, 3)
		m.clocked(all, locals)
		inner := slices.Concat(all, locals)
		state := api.State{Name: "S" + strconv.Itoa(n), Locals: locals, Unless: m.transitions(spot{vars: all, below: floor}, states)}
		defined := slices.Concat(own, locals)
		m.r.Shuffle(len(defined), func(i, j int) { defined[i], defined[j] = defined[j], defined[i] })
		state.Items = m.items(inner, defined, deep)
		state.Until = m.transitions(spot{vars: inner, below: math.Inf(1)}, states)
		i.States = append(i.States, state)
	}
	m.count = count
	return i
}

func (m *maker) transitions(s spot, states int) (list []api.Trans) {
	s.simple = true
	for range m.r.Intn(3) {
		list = append(list, api.Trans{Cond: m.exp(s, kind(api.Bool), 2), To: "S" + strconv.Itoa(m.r.Intn(states)), Cont: m.r.Intn(2) == 0})
	}
	return list
}

// Nodes that are there to be called.
const helpers = `node acc(x: i8) returns (y: i8) let y = x + (0i8 -> pre y); tel
node edge(b: bool) returns (c: bool) let c = b -> b and not pre b; tel
node add(a, b: i8) returns (c: i8) let c = a + b + (0i8 fby (c + 1i8)); tel
node either(a, b: bool) returns (c: bool) let c = a xor b xor tick(3, 1); tel
node swap(a: i8^2) returns (b: i8^2) let b = [a[1], a[0] + (1i8 -> pre b[0])]; tel
node spread(i: i8; b: bool) returns (a: i8^3; c: bool) let a = rep(i, 3) fby [a[1], a[2], i]; c = b; tel
node both(i: i8; b: bool) returns (j: i8; c: bool) let j = if b then i else 0i8; c = not b; tel
node twice() returns (a, b: bool) let a = true; b = tick(2, 0); tel
node none() returns (n: i8) let n = 1i8; tel
`

func (m *maker) program() api.Program {
	p, _, _ := gram.Parse(helpers)
	m.nodes, m.given = slices.Clone(p.Nodes), len(p.Nodes)
	for n := range 1 + m.r.Intn(3) {
		m.count, m.rank = 0, map[string]float64{}
		node := api.Node{Name: "f" + strconv.Itoa(n), Ins: m.vars("i", -20, 1, 3), Outs: m.vars("o", 0, 1, 3), Locals: m.vars("l", 0, 0, 5)}
		m.clocked(slices.Concat(node.Ins, node.Outs), node.Locals)
		own := slices.Concat(node.Outs, node.Locals)
		m.r.Shuffle(len(own), func(i, j int) { own[i], own[j] = own[j], own[i] })
		node.Items = m.items(slices.Concat(node.Ins, own), own, m.deep)
		m.nodes = append(m.nodes, node)
	}
	return api.Program{Nodes: m.nodes}
}
