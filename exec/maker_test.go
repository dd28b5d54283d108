package exec_test

import (
	"math"
	"math/rand"
	"slices"

	"metronome/api"
	"metronome/bv"
	"metronome/code"
)

// maker makes code that code.Check takes.
type maker struct {
	r *rand.Rand
	c api.Code
}

func newMaker(seed int) *maker { return &maker{r: rand.New(rand.NewSource(int64(seed)))} }

func pick[T any](r *rand.Rand, list []T) T { return list[r.Intn(len(list))] }

// value is often a small one, so that values meet, or one at the ends of its kind.
func (m *maker) value(kind int) int {
	return bv.Wrap(kind, pick(m.r, []int{0, 1, m.r.Intn(4), -m.r.Intn(4), int(m.r.Uint64()), math.MaxInt64 >> (64 - bv.Width(kind)), 1 << (bv.Width(kind) - 1)}))
}

func (m *maker) kind() int {
	return pick(m.r, []int{api.Bool, api.Bool, api.I8, api.I8, 1 + m.r.Intn(api.U64)})
}

func (m *maker) add(list ...api.Ins) { m.c.Body = append(m.c.Body, list...) }

// code is some code, with a stack that is as high as it must be, or higher.
func (m *maker) code() api.Code {
	m.c = api.Code{}
	for _, count := range []*int{&m.c.Ins, &m.c.Outs, &m.c.Cells, new(int)} {
		*count = m.r.Intn(4)
		for range *count {
			m.c.Kinds = append(m.c.Kinds, m.kind())
		}
	}
	for i := range m.c.Cells {
		m.c.Init = append(m.c.Init, m.value(m.c.Kinds[m.c.Ins+m.c.Outs+i]))
	}
	m.list(3)
	m.add(end())
	for code.Check(m.c) != api.OK {
		m.c.Stack++
	}
	m.c.Stack = pick(m.r, []int{m.c.Stack, m.c.Stack, m.c.Stack + 1, api.MaxStack})
	return m.c
}

func (m *maker) list(deep int) {
	for range m.r.Intn(5) {
		m.statement(deep)
	}
}

func (m *maker) statement(deep int) {
	if deep == 0 || m.r.Intn(3) > 0 {
		if own := len(m.c.Kinds) - m.c.Ins; own > 0 {
			slot := m.c.Ins + m.r.Intn(own)
			m.put(m.c.Kinds[slot], 3)
			m.add(save(slot))
		}
		return
	}
	m.fork(func() { m.list(deep - 1) }, func() {
		m.list(deep - 1)
		if m.r.Intn(4) == 0 {
			m.add(end())
		}
	})
}

// fork goes one of two ways; behind the jump something may stand that is not reached.
func (m *maker) fork(first, second func()) {
	m.put(api.Bool, 2)
	ask := len(m.c.Body)
	m.add(unless(0))
	first()
	over := len(m.c.Body)
	m.add(jump(0))
	for range m.r.Intn(5) - 3 {
		m.add(api.Ins{Op: 1 + m.r.Intn(9), N: m.number(), K: m.number()})
	}
	m.c.Body[ask].N = len(m.c.Body) - ask - 1
	second()
	m.c.Body[over].N = len(m.c.Body) - over - 1
}

func (m *maker) number() int {
	return pick(m.r, []int{0, 1, -1, m.r.Intn(22), 128, 8000, math.MaxInt, math.MinInt, int(m.r.Uint64())})
}

// put lays a value of the kind on the stack.
func (m *maker) put(kind, deep int) {
	var slots []int
	for slot, k := range m.c.Kinds {
		if k == kind {
			slots = append(slots, slot)
		}
	}
	choice := m.r.Intn(8)
	switch {
	case deep > 0 && choice < 3:
		m.operation(kind, deep-1)
	case deep > 0 && choice == 3:
		from := m.kind()
		m.put(from, deep-1)
		m.add(cast(from, kind))
	case deep > 1 && choice == 4:
		m.fork(func() { m.put(kind, deep-2) }, func() { m.put(kind, deep-2) })
	case len(slots) > 0 && choice < 7:
		m.add(load(pick(m.r, slots)))
	default:
		m.add(push(m.value(kind), kind))
	}
}

func (m *maker) operation(kind, deep int) {
	var made []api.Ins
	for op := api.OpNot; op <= api.OpGe; op++ {
		for of := api.Bool; of <= api.U64; of++ {
			if _, ok := bv.Un(op, of, 0); ok && of == kind {
				made = append(made, un(op, of))
			}
			if _, to, ok := bv.Bin(op, of, 0, 0); ok && to == kind {
				made = append(made, bin(op, of))
			}
		}
	}
	in := pick(m.r, made)
	for range in.Op - api.IUn + 1 {
		m.put(in.K, deep)
	}
	m.add(in)
}

// inputs are the values of a tick; now and then they are none.
func (m *maker) inputs(c api.Code) (values []int) {
	for _, kind := range c.Kinds[:c.Ins] {
		values = append(values, m.value(kind))
	}
	switch m.r.Intn(12) {
	case 0:
		values = append(values, m.number())
	case 1:
		if len(values) > 0 {
			values = values[1:]
		}
	case 2:
		if len(values) > 0 {
			values[m.r.Intn(len(values))] = m.number()
		}
	}
	return values
}

// spoil changes one thing.
func (m *maker) spoil(c *api.Code) {
	place := m.r.Intn(len(c.Body))
	in := &c.Body[place]
	switch m.r.Intn(10) {
	case 0:
		in.N = m.number()
	case 1:
		in.N += pick(m.r, []int{-1, 1})
	case 2:
		in.K = pick(m.r, []int{0, 1, 2, 9, 10, m.number()})
	case 3:
		in.Op = m.r.Intn(11)
	case 4:
		c.Body = slices.Delete(c.Body, place, place+1)
	case 5:
		c.Body = slices.Insert(c.Body, place, pick(m.r, c.Body))
	case 6:
		c.Stack += pick(m.r, []int{-1, 1, -2, 64})
	case 7:
		*pick(m.r, []*int{&c.Ins, &c.Outs, &c.Cells, &c.Stack}) += pick(m.r, []int{-1, 1, m.number()})
	case 8:
		if len(c.Kinds) > 0 {
			c.Kinds[m.r.Intn(len(c.Kinds))] = pick(m.r, []int{1 + m.r.Intn(9), m.number()})
		}
	case 9:
		if len(c.Init) > 0 {
			c.Init[m.r.Intn(len(c.Init))] = m.number()
		}
	}
}
