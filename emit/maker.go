package emit

import (
	"metronome/api"
)

// maker makes code of step code that obc.Check takes, statement by statement.
type maker struct {
	api.Code
	turns [api.SIf + 1]func(api.Stmt)
	slots map[string]int
	vars  map[string]int // the kinds of the variables
	free  map[int][]int  // by kind: slots that were lent and are not in use
	high  int            // how many values are on the stack now
}

func newMaker(s api.Step) *maker {
	m := &maker{slots: map[string]int{}, vars: map[string]int{}, free: map[int][]int{}}
	m.turns = [...]func(api.Stmt){api.SSet: m.save, api.SStore: m.save, api.SIf: m.fork}
	for _, v := range s.Ins {
		m.slots[v.Name] = m.newSlot(v.Kind)
	}
	for _, v := range s.Outs {
		m.slots[v.Name] = m.newSlot(v.Kind)
	}
	for _, c := range s.Cells {
		m.slots[c.Name] = m.newSlot(c.Kind)
		m.Init = append(m.Init, c.Init)
	}
	for _, v := range s.Vars {
		m.vars[v.Name] = v.Kind
	}
	m.Ins, m.Outs, m.Cells = len(s.Ins), len(s.Outs), len(s.Cells)
	return m
}

func (m *maker) newSlot(kind int) int {
	m.Kinds = append(m.Kinds, kind)
	return len(m.Kinds) - 1
}

// slot answers the slot of a name. A variable gets one where it is named first:
// those that are named nowhere need none.
func (m *maker) slot(name string) int {
	at, ok := m.slots[name]
	if !ok {
		at = m.newSlot(m.vars[name])
		m.slots[name] = at
	}
	return at
}

// borrow answers a slot for a value that is needed later, and what gives it
// back.
func (m *maker) borrow(kind int) (at int, giveBack func()) {
	free := m.free[kind]
	if last := len(free) - 1; last >= 0 {
		at, m.free[kind] = free[last], free[:last]
	} else {
		at = m.newSlot(kind)
	}
	return at, func() { m.free[kind] = append(m.free[kind], at) }
}

// isShort tells whether there are not too many instructions and slots so far.
// The stack is never too high: see part.
func (m *maker) isShort() bool {
	return len(m.Body) <= api.MaxCode && len(m.Kinds) <= api.MaxCells
}

// list turns statements, and tells whether all is short enough. What is too long
// becomes only longer: of that the rest is not looked at.
func (m *maker) list(all []api.Stmt) bool {
	for _, s := range all {
		if !m.isShort() {
			return false
		}
		m.turns[s.Form](s)
	}
	return m.isShort()
}

func (m *maker) save(s api.Stmt) {
	m.value(s.E)
	m.add(api.Ins{Op: api.ISave, N: m.slot(s.Name)})
}

func (m *maker) fork(s api.Stmt) {
	m.value(s.E)
	unless := m.jump(api.IFalse)
	m.list(s.Then)
	if len(s.Else) == 0 {
		unless()
		return
	}
	over := m.jump(api.IJump)
	unless()
	m.list(s.Else)
	over()
}

// jump adds a jump. What it answers is called where the jump leads to.
func (m *maker) jump(op int) func() {
	at := len(m.Body)
	m.add(api.Ins{Op: op})
	return func() { m.Body[at].N = len(m.Body) - at - 1 }
}

// add adds an instruction, and counts the values on the stack behind it.
func (m *maker) add(in api.Ins) {
	m.Body = append(m.Body, in)
	switch in.Op {
	case api.IPush, api.ILoad:
		m.high++
		m.Stack = max(m.Stack, m.high)
	case api.ISave, api.IBin, api.IFalse:
		m.high--
	}
}

// room answers how many more values may be on the stack.
func (m *maker) room() int { return api.MaxStack - m.high }
