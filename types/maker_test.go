package types

import (
	"math/rand"
	"slices"
	"strconv"
	"testing"

	"metronome/api"
	"metronome/gram"
	"metronome/names"
	"metronome/show"
)

// maker makes programs whose names are right, and whose types are, but for some: odd says how often, in a thousand, something is taken at random.
type maker struct {
	r     *rand.Rand
	odd   int
	nodes []api.Node
	count int
}

func (m *maker) oddly() bool { return m.r.Intn(1000) < m.odd }

func pick[T any](m *maker, list []T) T { return list[m.r.Intn(len(list))] }

func (m *maker) anyType() api.Type {
	t := kind(pick(m, []int{api.Bool, api.Bool, api.I8, api.I8, api.U8, api.U64}))
	if m.r.Intn(3) == 0 {
		t.Len = 1 + m.r.Intn(2)
	}
	return t
}

// named are the names of the variables of a type.
func (m *maker) named(vars []api.Var, t api.Type) (found []string) {
	odd := m.oddly()
	for _, v := range vars {
		if v.T == t || odd {
			found = append(found, v.Name)
		}
	}
	return found
}

// callable are the nodes that answer these types, and for which more holds.
func (m *maker) callable(more func(api.Node) bool, types ...api.Type) (found []api.Node) {
	if m.oddly() {
		return m.nodes
	}
	for _, n := range m.nodes {
		if slices.Equal(declared(n.Outs), types) && more(n) {
			found = append(found, n)
		}
	}
	return found
}

func anyNode(api.Node) bool { return true }

func scalarIns(n api.Node) bool {
	return len(n.Ins) > 0 && !slices.ContainsFunc(n.Ins, func(v api.Var) bool { return v.T.Len > 0 })
}

func foldable(n api.Node) bool {
	return scalarIns(n) && len(n.Ins) == 2 && n.Ins[0].T == n.Outs[0].T
}

// exp is an expression of that type.
func (m *maker) exp(vars []api.Var, t api.Type, size int, memory bool) api.Exp {
	if m.oddly() {
		t = m.anyType()
	}
	forms := []func([]api.Var, api.Type, int, bool) (api.Exp, bool){m.literal, m.variable, m.unary, m.binary, m.mixed, m.sampled, m.cast, m.element, m.elements, m.tick, m.memory, m.call, m.lifted}
	if !memory {
		forms = forms[:9]
	}
	if size <= 0 {
		forms = forms[:2]
	}
	for range 20 {
		if e, ok := pick(m, forms)(vars, t, size-1, memory); ok {
			return e
		}
	}
	e, _ := m.literal(vars, t, 0, memory)
	return e
}

func (m *maker) kids(vars []api.Var, size int, memory bool, types ...api.Type) (kids []api.Exp) {
	for _, t := range types {
		kids = append(kids, m.exp(vars, t, size, memory))
	}
	return kids
}

func (m *maker) literal(vars []api.Var, t api.Type, size int, memory bool) (api.Exp, bool) {
	lit := api.Exp{Form: api.ELit, T: kind(t.Kind), N: m.r.Intn(2)}
	if t.Len == 0 {
		return lit, true
	}
	return api.Exp{Form: api.ERep, N: t.Len, Kids: []api.Exp{lit}}, true
}

func (m *maker) variable(vars []api.Var, t api.Type, size int, memory bool) (api.Exp, bool) {
	if found := m.named(vars, t); len(found) > 0 {
		return api.Exp{Form: api.EVar, Name: pick(m, found)}, true
	}
	return api.Exp{}, false
}

func (m *maker) unary(vars []api.Var, t api.Type, size int, memory bool) (api.Exp, bool) {
	op := api.OpNot
	if t.Kind != api.Bool && m.r.Intn(2) == 0 || m.oddly() {
		op = api.OpNeg
	}
	e := api.Exp{Form: api.EUn, Sub: op, Kids: m.kids(vars, size, memory, t)}
	return e, t.Len == 0 && !(op == api.OpNeg && e.Kids[0].Form == api.ELit) || m.oddly()
}

func (m *maker) binary(vars []api.Var, t api.Type, size int, memory bool) (api.Exp, bool) {
	op, of := api.OpAdd+m.r.Intn(api.OpGe-api.OpAdd+1), t
	if op >= api.OpEq {
		of = m.anyType()
	}
	fits := t.Len == 0 && of.Len == 0 && operation(api.EBin, op, of.Kind) == t.Kind
	return api.Exp{Form: api.EBin, Sub: op, Kids: m.kids(vars, size, memory, of, of)}, fits || m.oddly()
}

func (m *maker) mixed(vars []api.Var, t api.Type, size int, memory bool) (api.Exp, bool) {
	return api.Exp{Form: api.EIf, Kids: m.kids(vars, size, memory, kind(api.Bool), t, t)}, true
}

func (m *maker) sampled(vars []api.Var, t api.Type, size int, memory bool) (api.Exp, bool) {
	found := m.named(vars, kind(api.Bool))
	if len(found) == 0 {
		return api.Exp{}, false
	}
	if m.r.Intn(2) == 0 {
		return api.Exp{Form: api.EWhen, Name: pick(m, found), N: m.r.Intn(2), Kids: m.kids(vars, size, memory, t)}, true
	}
	return api.Exp{Form: api.EMerge, Name: pick(m, found), Kids: m.kids(vars, size, memory, t, t)}, true
}

func (m *maker) cast(vars []api.Var, t api.Type, size int, memory bool) (api.Exp, bool) {
	from := m.anyType()
	return api.Exp{Form: api.ECast, T: kind(t.Kind), Kids: m.kids(vars, size, memory, from)}, t.Len == 0 && from.Len == 0 || m.oddly()
}

func (m *maker) element(vars []api.Var, t api.Type, size int, memory bool) (api.Exp, bool) {
	n := 1 + m.r.Intn(2)
	e := api.Exp{Form: api.EIndex, N: m.r.Intn(n), Kids: m.kids(vars, size, memory, array(t.Kind, n))}
	if m.oddly() {
		e.N = m.r.Intn(3)
	}
	return e, t.Len == 0
}

func (m *maker) elements(vars []api.Var, t api.Type, size int, memory bool) (api.Exp, bool) {
	if t.Len == 0 || t.Len > api.MaxKids {
		return api.Exp{}, false
	}
	e := api.Exp{Form: api.EArr, Kids: m.kids(vars, size, memory, slices.Repeat([]api.Type{kind(t.Kind)}, t.Len)...)}
	if m.r.Intn(2) == 0 {
		e = api.Exp{Form: api.ERep, N: t.Len, Kids: e.Kids[:1]}
	}
	if m.oddly() {
		e.N = pick(m, []int{0, 1, 2, 16, 17})
	}
	return e, true
}

func (m *maker) tick(vars []api.Var, t api.Type, size int, memory bool) (api.Exp, bool) {
	e := api.Exp{Form: api.ETick, N: pick(m, []int{2, 3, 64}), M: m.r.Intn(2)}
	if m.oddly() {
		e.N, e.M = pick(m, []int{0, 1, 2, 3, 64, 65}), pick(m, []int{0, 1, 2, 3, 63, 64, 65})
	}
	return e, t == kind(api.Bool)
}

func (m *maker) memory(vars []api.Var, t api.Type, size int, memory bool) (api.Exp, bool) {
	if m.r.Intn(3) == 0 {
		return api.Exp{Form: api.EPre, Kids: m.kids(vars, size, memory, t)}, true
	}
	return api.Exp{Form: pick(m, []int{api.EArrow, api.EFby}), Kids: m.kids(vars, size, memory, t, t)}, true
}

func (m *maker) call(vars []api.Var, t api.Type, size int, memory bool) (api.Exp, bool) {
	found := m.callable(anyNode, t)
	if len(found) == 0 {
		return api.Exp{}, false
	}
	return m.called(vars, pick(m, found), size), true
}

func (m *maker) called(vars []api.Var, n api.Node, size int) api.Exp {
	e := api.Exp{Form: api.ECall, Name: n.Name, Kids: m.kids(vars, size, true, m.oddTypes(declared(n.Ins))...)}
	if m.r.Intn(2) == 0 {
		e.Form, e.Kids = api.EReset, append(e.Kids, m.exp(vars, kind(api.Bool), size, true))
	}
	return e
}

// oddTypes are these, at times one more or one less.
func (m *maker) oddTypes(types []api.Type) []api.Type {
	if m.oddly() {
		types = append(types, m.anyType())
	}
	if m.oddly() && len(types) > 1 {
		types = types[1:]
	}
	return types
}

func (m *maker) lifted(vars []api.Var, t api.Type, size int, memory bool) (api.Exp, bool) {
	form, more, of := api.EFold, foldable, t
	if t.Len > 0 || m.oddly() {
		form, more, of = api.EMap, scalarIns, kind(t.Kind)
	}
	found := m.callable(more, of)
	if len(found) == 0 {
		return api.Exp{}, false
	}
	n := pick(m, found)
	ins := declared(n.Ins)
	if form == api.EFold {
		ins = append(ins, m.anyType(), m.anyType())[:2]
		ins[1].Len = 1 + m.r.Intn(2)
		return api.Exp{Form: form, Name: n.Name, Kids: m.kids(vars, size, memory, ins...)}, true
	}
	ins = m.oddTypes(append(ins, m.anyType())[:max(1, len(ins))])
	for i := range ins {
		ins[i].Len = t.Len
	}
	return api.Exp{Form: form, Name: n.Name, Kids: m.kids(vars, size, memory, ins...)}, true
}

func (m *maker) vars(ahead string, least, most int) (vars []api.Var) {
	for range least + m.r.Intn(most-least+1) {
		m.count++
		v := api.Var{Name: ahead + strconv.Itoa(m.count), T: m.anyType()}
		if m.oddly() && m.r.Intn(5) == 0 {
			v.T.Len = pick(m, []int{16, 17, 99})
		}
		vars = append(vars, v)
	}
	return vars
}

// clocked gives some locals a clock of the variables that are there.
func (m *maker) clocked(locals, there []api.Var) {
	for i, v := range locals {
		others := slices.DeleteFunc(m.named(there, kind(api.Bool)), func(name string) bool { return name == v.Name })
		for len(others) > 0 && m.r.Intn(4) == 0 {
			locals[i].Clock = append(locals[i].Clock, api.Edge{Name: pick(m, others), On: m.r.Intn(2) == 0})
		}
	}
}

// items are such that these variables are defined by them.
func (m *maker) items(all, own []api.Var, size int) (items []api.Item) {
	own = slices.Clone(own)
	m.r.Shuffle(len(own), func(i, j int) { own[i], own[j] = own[j], own[i] })
	for len(own) > 0 {
		n := min(1+m.r.Intn(2), len(own))
		mine := own[:n:n]
		found := m.callable(anyNode, declared(mine)...)
		switch {
		case size > 0 && m.r.Intn(4) == 0:
			items = append(items, m.automaton(all, mine, size-1))
		case n > 1 && len(found) > 0:
			items = append(items, api.Item{Names: varNames(mine), E: m.called(all, pick(m, found), 1)})
		default:
			if !m.oddly() {
				mine = mine[:1]
			}
			items = append(items, api.Item{Names: varNames(mine), E: m.exp(all, mine[0].T, 3, true)})
		}
		own = own[len(mine):]
	}
	return items
}

func varNames(vars []api.Var) (all []string) {
	for _, v := range vars {
		all = append(all, v.Name)
	}
	return all
}

func (m *maker) automaton(all, own []api.Var, size int) (i api.Item) {
	states := 1 + m.r.Intn(2)
	for n := range states {
		s := api.State{Name: "S" + strconv.Itoa(n), Unless: m.transitions(all, states), Locals: m.vars("l", 0, 2)}
		inner := slices.Concat(all, s.Locals)
		m.clocked(s.Locals, inner)
		s.Items = m.items(inner, slices.Concat(own, s.Locals), size)
		s.Until = m.transitions(inner, states)
		i.States = append(i.States, s)
	}
	return i
}

func (m *maker) transitions(all []api.Var, states int) (list []api.Trans) {
	for range m.r.Intn(2) {
		list = append(list, api.Trans{Cond: m.exp(all, kind(api.Bool), 2, false), To: "S" + strconv.Itoa(m.r.Intn(states))})
	}
	return list
}

func (m *maker) program() api.Program {
	m.nodes = nil
	for n := range 2 + m.r.Intn(5) {
		m.count = 0
		node := api.Node{Name: "f" + strconv.Itoa(n), Ins: m.vars("x", 0, 3), Outs: m.vars("x", 1, 2), Locals: m.vars("l", 0, 2)}
		own := slices.Concat(node.Outs, node.Locals)
		all := slices.Concat(node.Ins, own)
		m.clocked(node.Locals, all)
		node.Items = m.items(all, own, 2)
		m.nodes = append(m.nodes, node)
	}
	return api.Program{Nodes: m.nodes}
}

// TestP602Oracle holds Check against the oracle, of programs that are parsed from their texts; each rule must have been the first to be broken in some of them.
func TestP602Oracle(t *testing.T) {
	count := map[string]int{}
	for seed := range 10000 {
		m := &maker{r: rand.New(rand.NewSource(int64(seed))), odd: seed % 5 * 5}
		text := show.Print(m.program())
		p, at, e := gram.Parse(text)
		if e != api.OK {
			t.Fatalf("%s\nerror %d at %d", text, e, at)
		}
		if at, e := names.Check(p); e != api.OK {
			t.Fatalf("%s\nnames: error %d at %d", text, e, at)
		}
		want := oracleCheck(p)
		if at, e := Check(p); at != want.at || e != want.what {
			t.Fatalf("%s\nerror %d at %d, not %d at %d (%s)", text, e, at, want.what, want.at, want.rule)
		}
		if m.odd == 0 && want.what != api.OK {
			t.Fatalf("%s\nerror %d at %d (%s)", text, want.what, want.at, want.rule)
		}
		count[want.rule]++
	}
	for _, rule := range rulesToBreak() {
		if count[rule] < 3 {
			t.Errorf("%q: %d programs", rule, count[rule])
		}
	}
}

func rulesToBreak() []string {
	all := []string{"", "node size", "node clock", "state size", "state clock", "unless", "until", "equation count", "equation type", "kid"}
	for form := api.EUn; form <= api.EFold; form++ {
		what := api.ErrType
		if form == api.ETick {
			what = api.ErrCount
		}
		if form != api.EPre {
			all = append(all, "form "+strconv.Itoa(form)+" error "+strconv.Itoa(int(what)))
		}
	}
	for _, form := range []int{api.ECall, api.EReset, api.EIndex, api.ERep, api.EMap, api.EFold} {
		all = append(all, "form "+strconv.Itoa(form)+" error "+strconv.Itoa(int(api.ErrCount)))
	}
	return all
}

// TestP601Oracle holds Of against the oracle, part by part.
func TestP601Oracle(t *testing.T) {
	for seed := range 1500 {
		m := &maker{r: rand.New(rand.NewSource(int64(seed))), odd: 10}
		p, _, e := gram.Parse(show.Print(m.program()))
		if e != api.OK {
			t.Fatal(seed)
		}
		for _, n := range p.Nodes {
			all := slices.Concat(n.Ins, n.Outs, n.Locals)
			for _, i := range n.Items {
				holdsParts(t, p, n, all, i.E)
			}
			for _, s := range statesOf(n.Items) {
				for _, i := range s.Items {
					if len(i.States) == 0 {
						holdsParts(t, p, n, slices.Concat(all, s.Locals), i.E)
					}
				}
			}
		}
	}
}

// statesOf are the states of items, but not those within them.
func statesOf(items []api.Item) (states []api.State) {
	for _, i := range items {
		states = append(states, i.States...)
	}
	return states
}

func holdsParts(t *testing.T, p api.Program, n api.Node, all []api.Var, e api.Exp) {
	t.Helper()
	if e.Form == 0 {
		return
	}
	o := &oracle{program: p}
	want := o.exp(all, e)
	types, at, what := Of(p, n, all[len(n.Ins)+len(n.Outs)+len(n.Locals):], e)
	if !slices.Equal(types, want) || at != o.first().at || what != o.first().what {
		t.Fatalf("%s: %v, error %d at %d, not %v, %v", show.Exp(e), types, what, at, want, o.first())
	}
	for _, k := range e.Kids {
		holdsParts(t, p, n, all, k)
	}
}
