package obc

import (
	"metronome/api"
)

// What step code may be at most, for Check.
const (
	maxDeep       = api.MaxDeep * 10
	maxStatements = 20000
	maxParts      = 2000
)

// What anything that is handed in is at most: beyond that nothing is promised
// of Size, but it must end.
const (
	maxItems  = 1<<31 - 1
	maxNested = 1 << 16
)

// meter counts down what may still come. What is too deep uses all of it up, so
// that a list that is within itself is not gone over again and again.
type meter struct {
	left, deepest int
}

// take tells whether one more may come, that is so deep within others.
func (m *meter) take(deep int) bool {
	if m.left == 0 || deep > m.deepest {
		m.left = 0
		return false
	}
	m.left--
	return true
}

// parts tells whether all parts of an expression may come.
func (m *meter) parts(e api.CExp, deep int) bool {
	if !m.take(deep) {
		return false
	}
	for _, kid := range e.Kids {
		if !m.parts(kid, deep+1) {
			return false
		}
	}
	return true
}

// statements tells whether all of a list may come, with those within them.
func (m *meter) statements(list []api.Stmt, deep int) bool {
	for _, s := range list {
		if !m.take(deep) || !m.statements(thenOf(s), deep+1) || !m.statements(elseOf(s), deep+1) {
			return false
		}
	}
	return true
}

// step tells whether all statements may come, with those within them and the
// parts of their expressions. A statement of no form has an expression, too, for
// each of the forms has one.
func (m *meter) step(list []api.Stmt, deep int) bool {
	for _, s := range list {
		if !m.take(deep) || !m.parts(s.E, deep+1) {
			return false
		}
		if !m.step(thenOf(s), deep+1) || !m.step(elseOf(s), deep+1) {
			return false
		}
	}
	return true
}

func isForm(form int) bool { return form >= api.SSet && form <= api.SIf }

// thenOf answers nothing where a form has no Then: what stands there is not
// looked at.
func thenOf(s api.Stmt) []api.Stmt {
	if s.Form != api.SIf {
		return nil
	}
	return s.Then
}

func elseOf(s api.Stmt) []api.Stmt {
	if s.Form != api.SIf {
		return nil
	}
	return s.Else
}
