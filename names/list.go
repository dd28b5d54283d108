package names

import (
	"metronome/api"
)

// listCheck checks a list of items, one by one, and gathers what they define.
type listCheck struct {
	*checker
	item    api.Item
	defined set
}

func (c *checker) checkItems(items []api.Item) (set, fault) {
	l := &listCheck{checker: c, defined: set{}}
	for _, i := range items {
		l.item = i
		if f := l.checkItem(); f.found() {
			return nil, f
		}
	}
	return l.defined, fault{}
}

func (l *listCheck) checkItem() fault {
	if len(l.item.States) > 0 {
		return l.automaton()
	}
	return inOrder(l.names, l.value)
}

func (l *listCheck) names() fault {
	for _, name := range l.item.Names {
		if !l.there[anOwn].has(name) {
			return fault{l.item.At, api.ErrName}
		}
		if l.defined.has(name) {
			return fault{l.item.At, api.ErrTwice}
		}
		l.defined.add(name)
	}
	return fault{}
}

func (l *listCheck) value() fault { return l.expression(l.item.E) }

func (l *listCheck) automaton() fault {
	defined, f := l.checkStates(l.item.States)
	if f.found() {
		return f
	}
	for name := range defined {
		if l.defined.has(name) {
			return fault{l.item.At, api.ErrTwice}
		}
		l.defined.add(name)
	}
	return fault{}
}
