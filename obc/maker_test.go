package obc_test

import (
	"math/rand"
	"slices"
	"strconv"

	"metronome/api"
	"metronome/bv"
)

// maker makes flat programs that Check takes.
type maker struct {
	r     *rand.Rand
	kinds []int // few of them, so that variables are found
	now   []api.CVar
	all   []api.CVar
	step  bool // expressions are those of step code
}

func pick[T any](m *maker, list []T) T { return list[m.r.Intn(len(list))] }

func newMaker(seed int) *maker { return &maker{r: rand.New(rand.NewSource(int64(seed)))} }

// value is often a small one, so that values meet.
func (m *maker) value(kind int) int {
	return pick(m, []int{bv.Wrap(kind, m.r.Intn(3)), bv.Wrap(kind, m.r.Intn(3)), bv.Wrap(kind, -1-m.r.Intn(2)), bv.Wrap(kind, int(m.r.Uint64()))})
}

func found(list []api.CVar, kind int, clock []api.Edge) (names []string) {
	for _, v := range list {
		if v.Kind == kind && slices.Equal(v.Clock, clock) {
			names = append(names, v.Name)
		}
	}
	return names
}

func (m *maker) vars(ahead string, least, most int) (list []api.CVar) {
	for i := range least + m.r.Intn(most-least+1) {
		list = append(list, api.CVar{Name: ahead + strconv.Itoa(i), Kind: pick(m, m.kinds)})
	}
	return list
}

// clocked gives some variables a clock of those ahead of them.
func (m *maker) clocked(there, list []api.CVar) {
	for i, v := range list {
		var by []api.CVar
		for _, c := range slices.Concat(there, list[:i]) {
			if c.Kind == api.Bool {
				by = append(by, c)
			}
		}
		if v.Name[0] == 'l' && len(by) > 0 && m.r.Intn(3) > 0 {
			c := pick(m, by)
			list[i].Clock = append(slices.Clone(c.Clock), api.Edge{Name: c.Name, On: m.r.Intn(2) == 0})
			if i > 0 && m.r.Intn(2) == 0 {
				list[i].Clock = slices.Clone(list[m.r.Intn(i)].Clock)
			}
		}
	}
}

// program makes one whose variables each use those ahead of them in a list that it then forgets.
func (m *maker) program() (c api.Core) {
	m.kinds = []int{api.Bool, api.Bool, api.Bool, api.I8, api.I8, 1 + m.r.Intn(api.U64)}
	c.Ins = m.vars("x", 0, 4)
	own := slices.Concat(m.vars("y", 0, 3), m.vars("l", 0, 9))
	m.r.Shuffle(len(own), func(i, j int) { own[i], own[j] = own[j], own[i] })
	m.clocked(c.Ins, own)
	m.now, m.all = slices.Clone(c.Ins), slices.Concat(c.Ins, own)
	for _, v := range own {
		c.Eqs = append(c.Eqs, m.equation(v))
		m.now = append(m.now, v)
	}
	m.r.Shuffle(len(c.Eqs), func(i, j int) { c.Eqs[i], c.Eqs[j] = c.Eqs[j], c.Eqs[i] })
	m.r.Shuffle(len(own), func(i, j int) { own[i], own[j] = own[j], own[i] })
	for _, v := range own {
		if v.Name[0] == 'y' {
			c.Outs = append(c.Outs, v)
		} else {
			c.Locals = append(c.Locals, v)
		}
	}
	return c
}

func (m *maker) equation(v api.CVar) api.CEq {
	switch {
	case m.r.Intn(3) == 0:
		q := api.CEq{Form: api.CMem, Name: v.Name, Init: m.value(v.Kind), Next: pick(m, found(m.all, v.Kind, v.Clock))}
		if by := found(m.now, api.Bool, v.Clock); len(by) > 0 && m.r.Intn(2) == 0 {
			q.Reset = pick(m, by)
		}
		return q
	case v.Kind == api.Bool && len(v.Clock) == 0 && m.r.Intn(4) == 0:
		n := 1 + m.r.Intn(4)
		return api.CEq{Form: api.CTick, Name: v.Name, Period: n, Offset: m.r.Intn(n)}
	}
	return api.CEq{Form: api.CDef, Name: v.Name, E: m.exp(v.Kind, v.Clock, 1+m.r.Intn(5))}
}

func (m *maker) exp(kind int, clock []api.Edge, size int) api.CExp {
	forms := []func(int, []api.Edge, int) (api.CExp, bool){m.variable, m.unary, m.binary, m.choice, m.cast, m.sampled, m.sampled, m.merged, m.merged}
	if m.step {
		forms = forms[:5]
	}
	for range 20 {
		if size <= 0 {
			break
		}
		if e, ok := pick(m, forms)(kind, clock, size-1); ok {
			return e
		}
	}
	if e, ok := m.variable(kind, clock, 0); ok && m.r.Intn(6) > 0 {
		return e
	}
	if e, ok := m.sampled(kind, clock, 0); ok && m.r.Intn(6) > 0 {
		return e
	}
	return api.CExp{Form: api.ELit, Kind: kind, N: m.value(kind)}
}

func (m *maker) kids(clock []api.Edge, size int, kinds ...int) (list []api.CExp) {
	for _, k := range kinds {
		list = append(list, m.exp(k, clock, size))
	}
	return list
}

func (m *maker) variable(kind int, clock []api.Edge, size int) (api.CExp, bool) {
	names := found(m.now, kind, clock)
	if len(names) == 0 {
		return api.CExp{}, false
	}
	return api.CExp{Form: api.EVar, Name: pick(m, names)}, true
}

func (m *maker) unary(kind int, clock []api.Edge, size int) (api.CExp, bool) {
	ops := []int{api.OpNot, api.OpNeg}
	if kind == api.Bool {
		ops = ops[:1]
	}
	return api.CExp{Form: api.EUn, Sub: pick(m, ops), Kids: m.kids(clock, size, kind)}, true
}

func (m *maker) binary(kind int, clock []api.Edge, size int) (api.CExp, bool) {
	of, op := pick(m, m.kinds), 0
	switch {
	case kind != api.Bool:
		of, op = kind, pick(m, []int{api.OpAdd, api.OpSub, api.OpMul, api.OpDiv, api.OpMod, api.OpAnd, api.OpOr, api.OpXor, api.OpShl, api.OpShr})
	case of == api.Bool:
		op = pick(m, []int{api.OpEq, api.OpNe, api.OpAnd, api.OpOr, api.OpXor, api.OpImp})
	default:
		op = pick(m, []int{api.OpEq, api.OpNe, api.OpLt, api.OpLe, api.OpGt, api.OpGe})
	}
	return api.CExp{Form: api.EBin, Sub: op, Kids: m.kids(clock, size, of, of)}, true
}

func (m *maker) choice(kind int, clock []api.Edge, size int) (api.CExp, bool) {
	return api.CExp{Form: api.EIf, Kids: m.kids(clock, size, api.Bool, kind, kind)}, true
}

func (m *maker) cast(kind int, clock []api.Edge, size int) (api.CExp, bool) {
	return api.CExp{Form: api.ECast, Kind: kind, Kids: m.kids(clock, size, pick(m, m.kinds))}, true
}

func (m *maker) sampled(kind int, clock []api.Edge, size int) (api.CExp, bool) {
	last := len(clock) - 1
	if last < 0 {
		return api.CExp{}, false
	}
	e := api.CExp{Form: api.EWhen, Name: clock[last].Name, Kids: m.kids(clock[:last], size, kind)}
	if clock[last].On {
		e.N = 1
	}
	return e, true
}

func (m *maker) merged(kind int, clock []api.Edge, size int) (api.CExp, bool) {
	names := found(m.now, api.Bool, clock)
	if len(names) == 0 {
		return api.CExp{}, false
	}
	used := slices.DeleteFunc(slices.Clone(names), func(name string) bool { // those on whose clocks something is
		return !slices.ContainsFunc([]bool{true, false}, func(on bool) bool {
			return len(found(m.now, kind, append(slices.Clone(clock), api.Edge{Name: name, On: on}))) > 0
		})
	})
	if len(used) > 0 && m.r.Intn(4) > 0 {
		names = used
	}
	e := api.CExp{Form: api.EMerge, Name: pick(m, names)}
	for _, on := range []bool{true, false} {
		e.Kids = append(e.Kids, m.exp(kind, append(slices.Clone(clock), api.Edge{Name: e.Name, On: on}), size))
	}
	return e, true
}

func (m *maker) ticks(c api.Core, count int) (ticks [][]int) {
	for range count {
		values := []int{}
		for _, v := range c.Ins {
			values = append(values, m.value(v.Kind))
		}
		ticks = append(ticks, values)
	}
	return ticks
}
