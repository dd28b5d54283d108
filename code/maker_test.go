package code_test

import (
	"math"
	"math/rand"
	"slices"

	"metronome/api"
)

// maker makes code that Check takes.
type maker struct {
	r *rand.Rand
	c api.Code
}

func newMaker(seed int) *maker { return &maker{r: rand.New(rand.NewSource(int64(seed)))} }

func pick[T any](r *rand.Rand, list []T) T { return list[r.Intn(len(list))] }

// value is one of the kind, often one at its ends.
func (m *maker) value(kind int) int {
	n := pick(m.r, []int{least()[kind], most()[kind], 0, 1, m.r.Intn(100), -m.r.Intn(100), int(m.r.Uint64())})
	if isValue(kind, n) {
		return n
	}
	return m.r.Intn(2)
}

func (m *maker) kind() int {
	return pick(m.r, []int{api.Bool, api.Bool, api.I8, api.I8, 1 + m.r.Intn(api.U64)})
}

func (m *maker) add(list ...api.Ins) { m.c.Body = append(m.c.Body, list...) }

// code is some code, with a stack that is as high as it must be, or higher.
func (m *maker) code() api.Code {
	m.c = api.Code{}
	for _, count := range []*int{&m.c.Ins, &m.c.Outs, &m.c.Cells, new(int)} {
		*count = m.r.Intn(4)
		for range *count {
			m.c.Kinds = append(m.c.Kinds, m.kind())
		}
	}
	for i := range m.c.Cells {
		m.c.Init = append(m.c.Init, m.value(m.c.Kinds[m.c.Ins+m.c.Outs+i]))
	}
	m.list(3)
	m.add(end())
	c := m.c
	c.Stack = api.MaxStack
	o := oracle{c: c, found: map[int][]int{}}
	o.goes(0, nil)
	c.Stack = pick(m.r, []int{o.high, o.high, o.high, o.high + 1, api.MaxStack})
	return c
}

func (m *maker) list(deep int) {
	for range m.r.Intn(4) {
		m.statement(deep)
	}
}

func (m *maker) statement(deep int) {
	if deep == 0 || m.r.Intn(3) > 0 {
		if own := len(m.c.Kinds) - m.c.Ins; own > 0 {
			slot := m.c.Ins + m.r.Intn(own)
			m.put(m.c.Kinds[slot], 3)
			m.add(save(slot))
		}
		return
	}
	m.fork(func() { m.list(deep - 1) }, func() {
		m.list(deep - 1)
		if m.r.Intn(4) == 0 {
			m.add(end())
		}
	})
}

// fork goes one of two ways; behind the jump something may stand that is not reached.
func (m *maker) fork(first, second func()) {
	m.put(api.Bool, 2)
	ask := len(m.c.Body)
	m.add(unless(0))
	first()
	over := len(m.c.Body)
	m.add(jump(0))
	for range m.r.Intn(5) - 3 {
		m.add(m.junk())
	}
	m.c.Body[ask].N = len(m.c.Body) - ask - 1
	second()
	m.c.Body[over].N = len(m.c.Body) - over - 1
}

func (m *maker) number() int {
	return pick(m.r, []int{0, 1, -1, m.r.Intn(22), 63, 64, -64, -65, 200, 8191, 8192, -8193, math.MaxInt, math.MinInt, int(m.r.Uint64()), int(m.r.Uint64()) >> m.r.Intn(64)})
}

func (m *maker) junk() api.Ins { return api.Ins{Op: 1 + m.r.Intn(9), N: m.number(), K: m.number()} }

// put lays a value of the kind on the stack.
func (m *maker) put(kind, deep int) {
	var slots []int
	for slot, k := range m.c.Kinds {
		if k == kind {
			slots = append(slots, slot)
		}
	}
	choice := m.r.Intn(8)
	switch {
	case deep > 0 && choice < 3:
		m.operation(kind, deep-1)
	case deep > 0 && choice == 3:
		from := m.kind()
		m.put(from, deep-1)
		m.add(cast(from, kind))
	case deep > 1 && choice == 4:
		m.fork(func() { m.put(kind, deep-2) }, func() { m.put(kind, deep-2) })
	case len(slots) > 0 && choice < 7:
		m.add(load(pick(m.r, slots)))
	default:
		m.add(push(m.value(kind), kind))
	}
}

func (m *maker) operation(kind, deep int) {
	type row struct{ op, of, count int }
	var rows []row
	for op := api.OpNot; op <= api.OpGe; op++ {
		for of := api.Bool; of <= api.U64; of++ {
			if count, to := known(op, of); count > 0 && to == kind {
				rows = append(rows, row{op, of, count})
			}
		}
	}
	x := pick(m.r, rows)
	for range x.count {
		m.put(x.of, deep)
	}
	m.add(api.Ins{Op: api.IUn + x.count - 1, N: x.op, K: x.of})
}

// spoil changes one thing.
func (m *maker) spoil(c *api.Code) {
	place := m.r.Intn(len(c.Body))
	in := &c.Body[place]
	switch m.r.Intn(13) {
	case 0:
		in.N = m.number()
	case 1:
		in.N += pick(m.r, []int{-1, 1})
	case 2:
		in.K = pick(m.r, []int{0, 1, 2, 9, 10, m.number()})
	case 3:
		in.K = 1 + m.r.Intn(9)
	case 4:
		in.Op = 1 + m.r.Intn(9)
	case 5:
		*in = m.junk()
	case 6:
		c.Body = slices.Delete(c.Body, place, place+1)
	case 7:
		c.Body = slices.Insert(c.Body, place, pick(m.r, c.Body))
	case 8:
		c.Body[place], c.Body[m.r.Intn(len(c.Body))] = c.Body[m.r.Intn(len(c.Body))], c.Body[place]
	case 9:
		c.Stack += pick(m.r, []int{-1, 1, -2})
	case 10:
		*pick(m.r, []*int{&c.Ins, &c.Outs, &c.Cells, &c.Stack}) += pick(m.r, []int{-1, 1, m.number()})
	case 11:
		if len(c.Kinds) > 0 {
			c.Kinds[m.r.Intn(len(c.Kinds))] = pick(m.r, []int{1 + m.r.Intn(9), m.number()})
		}
	case 12:
		if len(c.Init) > 0 {
			c.Init[m.r.Intn(len(c.Init))] = m.number()
		}
	}
}
