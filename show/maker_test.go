package show

import (
	"math/rand"

	"metronome/api"
	"metronome/bv"
)

// maker makes programs that Parse can answer, but for the At.
type maker struct{ r *rand.Rand }

func (m maker) name() string {
	return []string{"a", "b", "x1", "_", "nodes", "iff", "i9"}[m.r.Intn(7)]
}

func (m maker) kind() int { return api.Bool + m.r.Intn(9) }

func (m maker) value(kind int) int {
	edge := 1 << (bv.Width(kind) - 1)
	return bv.Wrap(kind, []int{0, 1, -1, 3, -3, edge, edge - 1, edge + 1, m.r.Int()}[m.r.Intn(9)])
}

func (m maker) leaf() api.Exp {
	switch m.r.Intn(3) {
	case 0:
		return api.Exp{Form: api.EVar, Name: m.name()}
	case 1:
		return api.Exp{Form: api.ETick, N: m.r.Intn(100), M: m.r.Intn(100)}
	}
	kind := m.kind()
	return api.Exp{Form: api.ELit, T: api.Type{Kind: kind}, N: m.value(kind)}
}

func (m maker) kids(least, most, size int) (kids []api.Exp) {
	for range least + m.r.Intn(most-least+1) {
		kids = append(kids, m.exp(size-1))
	}
	return kids
}

func (m maker) exp(size int) api.Exp {
	if size <= 0 || m.r.Intn(5) == 0 {
		return m.leaf()
	}
	e := api.Exp{Form: api.EUn + m.r.Intn(api.EFold-api.EUn+1)}
	least, most := kidsOf(e.Form)
	e.Kids = m.kids(least, most, size)
	switch e.Form {
	case api.EUn:
		e.Sub = api.OpNot + m.r.Intn(2)
	case api.EBin:
		e.Sub = api.OpAdd + m.r.Intn(api.OpGe-api.OpAdd+1)
	case api.ECast:
		e.T.Kind = m.kind()
	case api.EWhen:
		e.Name, e.N = m.name(), m.r.Intn(2)
	case api.EMerge, api.ECall, api.EReset, api.EMap, api.EFold:
		e.Name = m.name()
	case api.EIndex, api.ERep:
		e.N = m.r.Intn(1000)
	case api.ETick:
		e.N, e.M = m.r.Intn(1000), m.r.Intn(1000)
	}
	return e
}

// kidsOf answers the least and the most kids that are made of a form.
func kidsOf(form int) (int, int) {
	switch form {
	case api.EUn, api.EPre, api.EWhen, api.ECast, api.EIndex, api.ERep:
		return 1, 1
	case api.EBin, api.EArrow, api.EFby, api.EMerge, api.EFold:
		return 2, 2
	case api.EIf:
		return 3, 3
	case api.ECall:
		return 0, 3
	case api.EReset, api.EArr, api.EMap:
		return 1, 3
	}
	return 0, 0
}

func (m maker) vars(least, most int, clocks bool) (vars []api.Var) {
	for range least + m.r.Intn(most-least+1) {
		v := api.Var{Name: m.name(), T: api.Type{Kind: m.kind(), Len: max(0, m.r.Intn(30)-10)}}
		for clocks && m.r.Intn(2) == 0 && len(v.Clock) < 16 {
			v.Clock = append(v.Clock, api.Edge{Name: m.name(), On: m.r.Intn(2) == 0})
		}
		vars = append(vars, v)
	}
	return vars
}

func (m maker) items(size int) (items []api.Item) {
	for range 1 + m.r.Intn(3) {
		var i api.Item
		if size > 0 && m.r.Intn(3) == 0 {
			for range 1 + m.r.Intn(3) {
				i.States = append(i.States, m.state(size-1))
			}
		} else {
			for range 1 + m.r.Intn(3) {
				i.Names = append(i.Names, m.name())
			}
			i.E = m.exp(size + 2)
		}
		items = append(items, i)
	}
	return items
}

func (m maker) state(size int) api.State {
	return api.State{Name: m.name(), Unless: m.transitions(), Locals: m.vars(0, 2, true), Items: m.items(size), Until: m.transitions()}
}

func (m maker) transitions() (all []api.Trans) {
	for range m.r.Intn(3) {
		all = append(all, api.Trans{Cond: m.exp(2), To: m.name(), Cont: m.r.Intn(2) == 0})
	}
	return all
}

func (m maker) program(size int) (p api.Program) {
	for range m.r.Intn(3) {
		p.Nodes = append(p.Nodes, api.Node{Name: m.name(), Ins: m.vars(0, 3, false), Outs: m.vars(1, 3, false), Locals: m.vars(0, 3, true), Items: m.items(size)})
	}
	return p
}
