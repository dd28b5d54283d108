package flat

import (
	"metronome/api"
)

// moment is when something is active. Its condition is made when a memory asks
// for it: most parts have none.
type moment struct {
	cond   func() term
	within map[edge]*moment
}

// edge is an edge of a clock.
type edge struct {
	of atom
	on bool
}

func (m *maker) moment(cond func() term) *moment {
	return &moment{m.once(cond), map[edge]*moment{}}
}

// once answers what makes a condition when it is asked for first, and holds it.
func (m *maker) once(cond func() term) func() term {
	var made *term
	return func() term {
		if made == nil {
			held := m.hold(cond())
			made = &held
		}
		return *made
	}
}

// behind answers when a moment is there, and a variable is as an edge says.
func (m *maker) behind(at *moment, by term, on bool) *moment {
	key := edge{by.atom(), on}
	made, ok := at.within[key]
	if !ok {
		made = m.moment(func() term {
			if on {
				return m.all(at.cond(), by)
			}
			return m.all(at.cond(), m.not(by))
		})
		at.within[key] = made
	}
	return made
}

// life is how long memories last: when they begin anew, and what tells that a
// part is active for the first time, by its moment's condition.
type life struct {
	anew   func() term
	firsts map[atom]term
}

func newLife(anew func() term) *life { return &life{anew, map[atom]term{}} }

// memory makes one, which is at first what init says; next answers what it is
// at the next tick.
func (m *maker) memory(like string, l *life, init term, next func(was term) term) term {
	was := m.local(like, init.kind)
	q := api.CEq{Form: api.CMem, Name: was.exp.Name, Init: init.exp.N}
	q.Next = m.variable(next(was))
	if anew := l.anew(); !anew.is(0) {
		q.Reset = m.variable(anew)
	}
	m.emit(q)
	return was
}

// keep makes a memory of what a value was when its moment was there last.
func (m *maker) keep(like string, l *life, at *moment, init, value term) term {
	return m.memory(like, l, init, func(was term) term { return m.choose(at.cond(), value, was) })
}

// isFirst answers what tells whether parts of a moment are active for the first
// time in a life.
func (m *maker) isFirst(l *life, at *moment) term {
	cond := at.cond()
	made, ok := l.firsts[cond.atom()]
	if !ok {
		made = m.memory("first", l, yes(), func(was term) term { return m.all(was, m.not(cond)) })
		l.firsts[cond.atom()] = made
	}
	return made
}
