package opt

import (
	"iter"
	"slices"

	"metronome/api"
)

// line is a statement that is worked on.
type line struct {
	form   int
	name   string
	e      api.CExp
	lists  [2][]*line // what is done where e is 0, and where it is 1
	within *line      // the statement that it stands in
	needed bool
}

// linesOf leaves out what a form does not have. The expressions are still those
// that were handed in.
func linesOf(list []api.Stmt) []*line {
	var made []*line
	for _, s := range list {
		l := &line{form: s.Form, e: s.E}
		if s.Form == api.SIf {
			l.lists = [...][]*line{linesOf(s.Else), linesOf(s.Then)}
		} else {
			l.name = s.Name
		}
		made = append(made, l)
	}
	return made
}

func statementsOf(list []*line) []api.Stmt {
	var made []api.Stmt
	for _, l := range list {
		made = append(made, api.Stmt{Form: l.form, Name: l.name, E: l.e, Then: statementsOf(l.lists[1]), Else: statementsOf(l.lists[0])})
	}
	return made
}

// statements tells the statements of a list, each ahead of those within it, and
// with the one that it stands in; nil, if that is none.
func statements(list []*line) iter.Seq2[*line, *line] {
	return func(yield func(l, within *line) bool) { walk(list, nil, yield) }
}

func walk(list []*line, within *line, yield func(l, within *line) bool) bool {
	for _, l := range list {
		if !yield(l, within) || !walk(l.lists[0], l, yield) || !walk(l.lists[1], l, yield) {
			return false
		}
	}
	return true
}

// lists tells a list of statements and all those within it, each ahead of those
// within its own statements: they are looked for once it has been told, so that
// it may have become another one.
func lists(list *[]*line) iter.Seq[*[]*line] {
	return func(yield func(*[]*line) bool) { walkLists(list, yield) }
}

func walkLists(list *[]*line, yield func(*[]*line) bool) bool {
	if !yield(list) {
		return false
	}
	for _, l := range *list {
		if !walkLists(&l.lists[0], yield) || !walkLists(&l.lists[1], yield) {
			return false
		}
	}
	return true
}

// names tells the names in an expression.
func names(e api.CExp) iter.Seq[string] {
	return func(yield func(string) bool) { walkNames(e, yield) }
}

func walkNames(e api.CExp, yield func(string) bool) bool {
	if e.Form == api.EVar && !yield(e.Name) {
		return false
	}
	for _, kid := range e.Kids {
		if !walkNames(kid, yield) {
			return false
		}
	}
	return true
}

// replaced answers a list of what a rule puts in the place of each statement of
// one, innermost first.
func replaced(list []*line, rule func(*line) []*line) []*line {
	var made []*line
	for _, l := range list {
		for i, inner := range l.lists {
			l.lists[i] = replaced(inner, rule)
		}
		made = append(made, rule(l)...)
	}
	return made
}

// goesWith tells whether a statement and the next one may become one: the next
// one asks the same, and the answer is still the same then.
func (l *line) goesWith(next *line) bool {
	return l.form == api.SIf && next.form == api.SIf && isSame(l.e, next.e) && !l.changes(l.e)
}

func isSame(a, b api.CExp) bool {
	return a.Form == b.Form && a.Sub == b.Sub && a.Kind == b.Kind && a.N == b.N && a.Name == b.Name && slices.EqualFunc(a.Kids, b.Kids, isSame)
}

// changes tells whether a statement within l gives another value to a name of
// an expression.
func (l *line) changes(e api.CExp) bool {
	asked := map[string]int{}
	for name := range names(e) {
		asked[name]++
	}
	for _, list := range l.lists {
		for inner := range statements(list) {
			if inner.form != api.SIf && asked[inner.name] > 0 {
				return true
			}
		}
	}
	return false
}
