package opt_test

import (
	"math/rand"
	"slices"
	"strconv"

	"metronome/api"
	"metronome/bv"
)

// maker makes step code that obc.Check takes, with much in it that is to be gone.
type maker struct {
	r     *rand.Rand
	kinds []int // few of them, so that names are found
	names []api.CVar
	conds []api.CExp // few of them, so that they meet
}

func pick[T any](m *maker, list []T) T { return list[m.r.Intn(len(list))] }

func newMaker(seed int) *maker { return &maker{r: rand.New(rand.NewSource(int64(seed)))} }

// value is often a small one, so that values meet.
func (m *maker) value(kind int) int {
	return pick(m, []int{bv.Wrap(kind, m.r.Intn(3)), bv.Wrap(kind, m.r.Intn(3)), bv.Wrap(kind, -1-m.r.Intn(2)), bv.Wrap(kind, int(m.r.Uint64()))})
}

func (m *maker) vars(ahead string, least, most int) (list []api.CVar) {
	for i := range least + m.r.Intn(most-least+1) {
		list = append(list, api.CVar{Name: ahead + strconv.Itoa(i), Kind: pick(m, m.kinds)})
	}
	return list
}

func (m *maker) code() (s api.Step) {
	m.kinds = []int{api.Bool, api.Bool, api.I8, api.I8, 1 + m.r.Intn(api.U64)}
	s.Ins, s.Outs, s.Vars = m.vars("x", 0, 3), m.vars("y", 1, 3), m.vars("l", 0, 5)
	for _, v := range m.vars("c", 0, 4) {
		s.Cells = append(s.Cells, api.Cell{Name: v.Name, Kind: v.Kind, Init: m.value(v.Kind)})
	}
	m.names = slices.Concat(s.Ins, s.Outs, s.Vars)
	for _, c := range s.Cells {
		m.names = append(m.names, api.CVar{Name: c.Name, Kind: c.Kind})
	}
	for range 3 {
		m.conds = append(m.conds, m.exp(api.Bool, m.r.Intn(3)))
	}
	s.Body = m.statements(s, 4)
	return s
}

func (m *maker) statements(s api.Step, deep int) (list []api.Stmt) {
	for range m.r.Intn(6) {
		all := slices.Concat(s.Outs, s.Vars)
		switch what := m.r.Intn(6); {
		case what < 2 && len(all) > 0:
			v := pick(m, all)
			list = append(list, api.Stmt{Form: api.SSet, Name: v.Name, E: m.exp(v.Kind, m.r.Intn(4))})
		case what < 4 && len(s.Cells) > 0:
			c := pick(m, s.Cells)
			list = append(list, api.Stmt{Form: api.SStore, Name: c.Name, E: m.exp(c.Kind, m.r.Intn(4))})
		case deep > 0:
			list = append(list, api.Stmt{Form: api.SIf, E: pick(m, m.conds), Then: m.statements(s, deep-1), Else: m.statements(s, deep-1)})
		}
	}
	return list
}

func (m *maker) exp(kind, size int) api.CExp {
	if size > 0 {
		switch m.r.Intn(6) {
		case 0:
			return m.unary(kind, size-1)
		case 1, 2:
			return m.binary(kind, size-1)
		case 3:
			return api.CExp{Form: api.EIf, Kids: m.kids(size-1, api.Bool, kind, kind)}
		case 4:
			return api.CExp{Form: api.ECast, Kind: kind, Kids: m.kids(size-1, pick(m, m.kinds))}
		}
	}
	var names []string
	for _, v := range m.names {
		if v.Kind == kind {
			names = append(names, v.Name)
		}
	}
	if len(names) > 0 && m.r.Intn(2) > 0 {
		return api.CExp{Form: api.EVar, Name: pick(m, names)}
	}
	return api.CExp{Form: api.ELit, Kind: kind, N: m.value(kind)}
}

func (m *maker) kids(size int, kinds ...int) (list []api.CExp) {
	for _, k := range kinds {
		list = append(list, m.exp(k, size))
	}
	return list
}

func (m *maker) unary(kind, size int) api.CExp {
	ops := []int{api.OpNot, api.OpNeg}
	if kind == api.Bool {
		ops = ops[:1]
	}
	return api.CExp{Form: api.EUn, Sub: pick(m, ops), Kids: m.kids(size, kind)}
}

func (m *maker) binary(kind, size int) api.CExp {
	of, op := pick(m, m.kinds), 0
	switch {
	case kind != api.Bool:
		of, op = kind, pick(m, []int{api.OpAdd, api.OpSub, api.OpMul, api.OpDiv, api.OpMod, api.OpAnd, api.OpOr, api.OpXor, api.OpShl, api.OpShr})
	case of == api.Bool:
		op = pick(m, []int{api.OpEq, api.OpNe, api.OpAnd, api.OpOr, api.OpXor, api.OpImp})
	default:
		op = pick(m, []int{api.OpEq, api.OpNe, api.OpLt, api.OpLe, api.OpGt, api.OpGe})
	}
	return api.CExp{Form: api.EBin, Sub: op, Kids: m.kids(size, of, of)}
}

// any makes an expression, or what is none: kinds that do not go together, other numbers of kids, forms of all sorts.
func (m *maker) any(size int) api.CExp {
	if size == 0 || m.r.Intn(5) == 0 {
		kind := 1 + m.r.Intn(api.U64)
		return pick(m, []api.CExp{ref("a"), lit(kind, m.value(kind)), lit(kind, m.value(kind)), lit(api.I8, m.r.Intn(3)), lit(api.Bool, m.r.Intn(2)), lit(api.Bool, m.r.Intn(2)), lit(m.r.Intn(12)-1, m.r.Intn(400)-200)})
	}
	kid := func() api.CExp { return m.any(size - 1) }
	e := pick(m, []func() api.CExp{
		func() api.CExp { return un(pick(m, []int{api.OpNot, api.OpNeg, api.OpAdd}), kid()) }, func() api.CExp { return bin(m.r.Intn(21), kid(), kid()) }, func() api.CExp { return bin(api.OpEq, kid(), kid()) }, func() api.CExp { return choose(kid(), kid(), kid()) }, func() api.CExp { return choose(lit(api.Bool, m.r.Intn(2)), kid(), kid()) }, func() api.CExp { return cast(m.r.Intn(11), kid()) }, func() api.CExp { return cast(api.I8, kid()) }, func() api.CExp { return when(kid(), "c", m.r.Intn(3)) }, func() api.CExp { return merge("c", kid(), kid()) },
	})()
	switch m.r.Intn(30) {
	case 0:
		e.Kids = append(e.Kids, kid())
	case 1:
		e.Kids = e.Kids[1:]
	case 2:
		e.Form = m.r.Intn(22) - 1
	}
	return e
}

func (m *maker) ticks(s api.Step, count int) (ticks [][]int) {
	for range count {
		values := []int{}
		for _, v := range s.Ins {
			values = append(values, m.value(v.Kind))
		}
		ticks = append(ticks, values)
	}
	return ticks
}
