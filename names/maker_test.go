package names

import (
	"math/rand"
	"slices"
	"strconv"
	"testing"

	"metronome/api"
	"metronome/gram"
	"metronome/show"
)

// maker makes programs whose names are right, but for some: odd says how often, in a thousand, one is taken at random.
type maker struct {
	r     *rand.Rand
	odd   int
	nodes []string
	count int
}

func (m *maker) oddly() bool { return m.r.Intn(1000) < m.odd }

func (m *maker) one(names []string) string {
	if m.oddly() || len(names) == 0 {
		return []string{"x0", "x1", "x2", "x3", "l0", "l5", "l6", "q", "f0", "f1", "S0", "S1", "S2"}[m.r.Intn(13)]
	}
	return names[m.r.Intn(len(names))]
}

// fresh is a name that no other variable of the node has.
func (m *maker) fresh(ahead string) string {
	m.count++
	if m.oddly() {
		return m.one(nil)
	}
	return ahead + strconv.Itoa(m.count)
}

func (m *maker) exp(vars []string, size int, memory bool) api.Exp {
	forms := []int{api.EVar, api.ELit, api.ETick, api.EUn, api.EBin, api.EIf, api.EWhen, api.EMerge, api.ECast, api.EArr, api.EIndex, api.ERep, api.EPre, api.EArrow, api.EFby, api.ECall, api.EReset, api.EMap, api.EFold}
	if !memory {
		forms = forms[:slices.Index(forms, api.EPre)]
	}
	if size <= 0 {
		forms = forms[:3]
	}
	form := forms[m.r.Intn(len(forms))]
	if form == api.ETick && !memory || calls(form) && len(m.nodes) == 0 && !m.oddly() || m.r.Intn(3) == 0 {
		form = api.EVar
	}
	return m.made(api.Exp{Form: form}, vars, size, memory)
}

func (m *maker) made(e api.Exp, vars []string, size int, memory bool) api.Exp {
	kids := 0
	switch e.Form {
	case api.EVar:
		e.Name = m.one(vars)
	case api.ELit:
		e.T.Kind = api.Bool
	case api.EUn, api.EPre, api.ECast, api.EIndex, api.ERep:
		e.Sub, e.T.Kind, kids = api.OpNot, api.Bool, 1
	case api.EBin, api.EArrow, api.EFby:
		e.Sub, kids = api.OpAdd, 2
	case api.EIf:
		kids = 3
	case api.EWhen, api.EMerge:
		e.Name, kids = m.one(vars), e.Form-api.EWhen+1
	case api.ECall, api.EReset, api.EMap, api.EArr:
		e.Name, kids = m.one(m.nodes), 1+m.r.Intn(2)
	case api.EFold:
		e.Name, kids = m.one(m.nodes), 2
	}
	for range kids {
		e.Kids = append(e.Kids, m.exp(vars, size-1, memory))
	}
	return e
}

func (m *maker) vars(ahead string, least, most int) (vars []api.Var) {
	for range least + m.r.Intn(most-least+1) {
		vars = append(vars, api.Var{Name: m.fresh(ahead), T: api.Type{Kind: api.Bool}})
	}
	return vars
}

// clocked gives some locals a clock of the variables that are there.
func (m *maker) clocked(locals []api.Var, there []string) {
	for i, v := range locals {
		others := slices.DeleteFunc(slices.Clone(there), func(name string) bool { return name == v.Name && !m.oddly() })
		for len(others) > 0 && m.r.Intn(4) == 0 {
			locals[i].Clock = append(locals[i].Clock, api.Edge{Name: m.one(others), On: m.r.Intn(2) == 0})
		}
	}
}

// items are such that these variables are defined by them.
func (m *maker) items(all, own []string, size int) (items []api.Item) {
	own = slices.Clone(own)
	m.r.Shuffle(len(own), func(i, j int) { own[i], own[j] = own[j], own[i] })
	for len(own) > 0 {
		n := min(1+m.r.Intn(2), len(own))
		mine := own[:n:n]
		own = own[n:]
		if m.oddly() {
			mine = append(mine, m.one(all))
		}
		if m.oddly() || m.oddly() {
			mine = mine[:max(1, len(mine)-1)]
		}
		if size > 0 && m.r.Intn(3) == 0 {
			items = append(items, m.automaton(all, mine, size-1))
		} else {
			items = append(items, api.Item{Names: mine, E: m.exp(all, 2, true)})
		}
	}
	return items
}

func (m *maker) automaton(all, own []string, size int) (i api.Item) {
	var states []string
	for n := range 1 + m.r.Intn(3) {
		states = append(states, "S"+strconv.Itoa(n))
	}
	for _, name := range states {
		if m.oddly() {
			name = m.one(states)
		}
		if m.oddly() || m.oddly() {
			own = append(slices.Clone(own), m.one(all))
		}
		i.States = append(i.States, m.state(name, states, all, own, size))
	}
	return i
}

func (m *maker) state(name string, states, all, own []string, size int) api.State {
	s := api.State{Name: name, Unless: m.transitions(all, states), Locals: m.vars("l", 0, 2)}
	all = slices.Concat(all, varNames(s.Locals))
	m.clocked(s.Locals, all)
	s.Items = m.items(all, slices.Concat(own, varNames(s.Locals)), size)
	s.Until = m.transitions(all, states)
	return s
}

func (m *maker) transitions(all, states []string) (list []api.Trans) {
	for range m.r.Intn(3) {
		list = append(list, api.Trans{Cond: m.exp(all, 1, m.oddly()), To: m.one(states)})
	}
	return list
}

func (m *maker) program() (p api.Program) {
	m.nodes = nil
	for n := range 1 + m.r.Intn(3) {
		m.count = 0
		node := api.Node{Name: "f" + strconv.Itoa(n), Ins: m.vars("x", 0, 2), Outs: m.vars("x", 1, 3), Locals: m.vars("l", 0, 3)}
		if m.oddly() {
			node.Name = m.one(m.nodes)
		}
		own := varNames(slices.Concat(node.Outs, node.Locals))
		all := slices.Concat(varNames(node.Ins), own)
		m.clocked(node.Locals, all)
		node.Items = m.items(all, own, 2)
		p.Nodes = append(p.Nodes, node)
		m.nodes = append(m.nodes, node.Name)
	}
	return p
}

// TestP501Oracle holds Check against the oracle, of programs that are parsed from their texts.
func TestP501Oracle(t *testing.T) {
	count := map[api.Errno]int{}
	for seed := range 12000 {
		m := &maker{r: rand.New(rand.NewSource(int64(seed))), odd: seed % 5 * 5}
		text := show.Print(m.program())
		p, _, e := gram.Parse(text)
		if e != api.OK {
			t.Fatal(text)
		}
		wantAt, want := oracleCheck(p)
		if at, e := Check(p); at != wantAt || e != want {
			t.Fatalf("%s\nerror %d at %d, not %d at %d", text, e, at, want, wantAt)
		}
		if m.odd == 0 && want != api.OK {
			t.Fatalf("%s\nerror %d at %d", text, want, wantAt)
		}
		count[want]++
	}
	for _, e := range []api.Errno{api.OK, api.ErrTwice, api.ErrName, api.ErrMissing, api.ErrState, api.ErrCond} {
		if count[e] < 200 {
			t.Errorf("error %d: %d programs", e, count[e])
		}
	}
}
