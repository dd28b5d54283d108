package emit_test

import (
	"math/rand"
	"slices"
	"strconv"

	"metronome/api"
	"metronome/bv"
)

// maker makes step code that obc.Check takes.
type maker struct {
	r     *rand.Rand
	kinds []int // few of them, so that names are found
	names []api.CVar
}

func pick[T any](m *maker, list []T) T { return list[m.r.Intn(len(list))] }

func newMaker(seed int) *maker { return &maker{r: rand.New(rand.NewSource(int64(seed)))} }

// value is often a small one, so that values meet.
func (m *maker) value(kind int) int {
	return bv.Wrap(kind, pick(m, []int{m.r.Intn(3), m.r.Intn(3), -1 - m.r.Intn(2), int(m.r.Uint64()), 1 << (bv.Width(kind) - 1)}))
}

func (m *maker) vars(ahead string, least, most int) (list []api.CVar) {
	for i := range least + m.r.Intn(most-least+1) {
		list = append(list, api.CVar{Name: ahead + strconv.Itoa(i), Kind: pick(m, m.kinds)})
	}
	return list
}

// start makes names.
func (m *maker) start() (s api.Step) {
	m.kinds = []int{api.Bool, api.Bool, api.I8, api.I8, 1 + m.r.Intn(api.U64)}
	s.Ins, s.Outs, s.Vars = m.vars("x", 0, 4), m.vars("y", 1, 4), m.vars("l", 0, 4)
	for _, v := range m.vars("c", 0, 4) {
		s.Cells = append(s.Cells, api.Cell{Name: v.Name, Kind: v.Kind, Init: m.value(v.Kind)})
	}
	m.names = slices.Concat(s.Ins, s.Outs, s.Vars)
	for _, c := range s.Cells {
		m.names = append(m.names, api.CVar{Name: c.Name, Kind: c.Kind})
	}
	return s
}

func (m *maker) step() api.Step {
	s := m.start()
	s.Body = m.statements(s, 4)
	return s
}

func (m *maker) statements(s api.Step, deep int) (list []api.Stmt) {
	for range m.r.Intn(6) {
		all := slices.Concat(s.Outs, s.Vars)
		switch what := m.r.Intn(6); {
		case what < 3 && len(all) > 0:
			v := pick(m, all)
			list = append(list, set(v.Name, m.exp(v.Kind, m.r.Intn(5))))
		case what < 5 && len(s.Cells) > 0:
			c := pick(m, s.Cells)
			list = append(list, store(c.Name, m.exp(c.Kind, m.r.Intn(5))))
		case deep > 0:
			list = append(list, fork(m.exp(api.Bool, m.r.Intn(3)), m.statements(s, deep-1), m.statements(s, deep-1)))
		}
	}
	return list
}

// long is step code of one output whose expression is of the size.
func (m *maker) long(size int) api.Step {
	s := m.start()
	s.Vars, s.Cells = nil, nil
	m.names = s.Ins
	s.Body = list(set("y0", m.tree(s.Outs[0].Kind, size)))
	return s
}

// tree is an expression of that many parts, or nearly so, with most of them on one side.
func (m *maker) tree(kind, size int) api.CExp {
	if size < 5 {
		return m.exp(kind, 0)
	}
	rest := size - 1
	less := min(rest/2, pick(m, []int{1, 1, 1, 1, 3, 3, 5, 5, 9, 17, 31}))
	switch m.r.Intn(20) {
	case 0:
		return un(api.OpNot, m.tree(kind, rest))
	case 1:
		return cast(kind, m.tree(pick(m, m.kinds), rest))
	case 2:
		sizes := pick(m, [][]int{{less, 1, rest - less - 1}, {less, rest - less - 1, 1}, {rest - less - 1, less, 1}})
		return choose(m.tree(api.Bool, sizes[0]), m.tree(kind, sizes[1]), m.tree(kind, sizes[2]))
	case 3, 4:
		less = rest - less
	}
	op, of := m.operation(kind)
	return bin(op, m.tree(of, less), m.tree(of, rest-less))
}

func (m *maker) exp(kind, deep int) api.CExp {
	if deep > 0 {
		switch m.r.Intn(6) {
		case 0:
			return m.unary(kind, deep-1)
		case 1, 2:
			op, of := m.operation(kind)
			return bin(op, m.exp(of, deep-1), m.exp(of, deep-1))
		case 3:
			return choose(m.exp(api.Bool, deep-1), m.exp(kind, deep-1), m.exp(kind, deep-1))
		case 4:
			return cast(kind, m.exp(pick(m, m.kinds), deep-1))
		}
	}
	var names []string
	for _, v := range m.names {
		if v.Kind == kind {
			names = append(names, v.Name)
		}
	}
	if len(names) > 0 && m.r.Intn(4) > 0 {
		return ref(pick(m, names))
	}
	return lit(kind, m.value(kind))
}

func (m *maker) unary(kind, deep int) api.CExp {
	ops := []int{api.OpNot, api.OpNeg}
	if kind == api.Bool {
		ops = ops[:1]
	}
	return un(pick(m, ops), m.exp(kind, deep))
}

// operation is one that answers the kind, and the kind of which it is.
func (m *maker) operation(kind int) (op, of int) {
	of = pick(m, m.kinds)
	switch {
	case kind != api.Bool:
		return pick(m, []int{api.OpAdd, api.OpSub, api.OpMul, api.OpDiv, api.OpMod, api.OpAnd, api.OpOr, api.OpXor, api.OpShl, api.OpShr}), kind
	case of == api.Bool:
		return pick(m, []int{api.OpEq, api.OpNe, api.OpAnd, api.OpOr, api.OpXor, api.OpImp}), of
	}
	return pick(m, []int{api.OpEq, api.OpNe, api.OpLt, api.OpLe, api.OpGt, api.OpGe}), of
}

func (m *maker) ticks(s api.Step, count int) (ticks [][]int) {
	for range count {
		values := []int{}
		for _, v := range s.Ins {
			values = append(values, m.value(v.Kind))
		}
		ticks = append(ticks, values)
	}
	return ticks
}
