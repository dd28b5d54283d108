package opt

import (
	"slices"

	"metronome/api"
)

// shortener makes step code shorter.
type shortener struct {
	ins, outs, vars []api.CVar
	cells           []api.Cell
	body            []*line
}

func newShortener(s api.Step) *shortener {
	return &shortener{
		ins:   copied(s.Ins),
		outs:  copied(s.Outs),
		vars:  unclocked(s.Vars),
		cells: slices.Clone(s.Cells),
		body:  linesOf(s.Body),
	}
}

// copied keeps clocks, though they mean nothing: inputs and outputs stay the
// same.
func copied(list []api.CVar) []api.CVar {
	made := slices.Clone(list)
	for i, v := range made {
		made[i].Clock = slices.Clone(v.Clock)
	}
	return made
}

func unclocked(list []api.CVar) []api.CVar {
	var made []api.CVar
	for _, v := range list {
		made = append(made, api.CVar{Name: v.Name, Kind: v.Kind})
	}
	return made
}

func (h *shortener) step() api.Step {
	return api.Step{Ins: h.ins, Outs: h.outs, Vars: h.vars, Cells: h.cells, Body: statementsOf(h.body)}
}

// shorten does the passes until none of them changes anything. Each of them
// tells whether it did.
func (h *shortener) shorten() {
	passes := []func() bool{h.fold, h.decide, h.sweep, h.join}
	for again := true; again; {
		again = false
		for _, pass := range passes {
			again = pass() || again
		}
	}
}

// fold is the first pass: it makes all expressions new ones.
func (h *shortener) fold() bool {
	f := folder{}
	for l := range statements(h.body) {
		l.e, _ = f.fold(l.e)
	}
	return f.count > 0
}

// decide puts what is done in the place of a statement that asks a literal.
func (h *shortener) decide() bool {
	count := 0
	h.body = replaced(h.body, func(l *line) []*line {
		if l.form != api.SIf || l.e.Form != api.ELit {
			return []*line{l}
		}
		count++
		return l.lists[l.e.N]
	})
	return count > 0
}

// sweep drops the variables and cells on which no output hangs, and the
// statements that serve none but these. All are idle until something that is
// needed names them.
func (h *shortener) sweep() bool {
	idle, todo := h.sort()
	for len(todo) > 0 {
		last := len(todo) - 1
		l := todo[last]
		todo = todo[:last]
		if l == nil || l.needed {
			continue
		}
		l.needed = true
		todo = append(todo, l.within)
		for name := range names(l.e) {
			todo = append(todo, idle[name]...)
			delete(idle, name)
		}
	}
	return h.drop(idle)
}

// sort answers the variables and cells, each with the statements that change
// it, and the other statements that change something: outputs.
func (h *shortener) sort() (idle map[string][]*line, others []*line) {
	idle = map[string][]*line{}
	for _, v := range h.vars {
		idle[v.Name] = nil
	}
	for _, c := range h.cells {
		idle[c.Name] = nil
	}
	for l, within := range statements(h.body) {
		l.needed, l.within = false, within
		if l.form == api.SIf {
			continue
		}
		if list, ok := idle[l.name]; ok {
			idle[l.name] = append(list, l)
		} else {
			others = append(others, l)
		}
	}
	return idle, others
}

// drop leaves out the statements that are not needed, and names.
func (h *shortener) drop(idle map[string][]*line) bool {
	count := len(idle)
	h.body = replaced(h.body, func(l *line) []*line {
		if l.needed {
			return []*line{l}
		}
		count++
		return nil
	})
	isIdle := func(name string) bool { _, ok := idle[name]; return ok }
	h.vars = slices.DeleteFunc(h.vars, func(v api.CVar) bool { return isIdle(v.Name) })
	h.cells = slices.DeleteFunc(h.cells, func(c api.Cell) bool { return isIdle(c.Name) })
	return count > 0
}

// join makes one of statements that ask the same, one behind the other.
func (h *shortener) join() bool {
	count := 0
	for list := range lists(&h.body) {
		made := joined(*list)
		count += len(*list) - len(made)
		*list = made
	}
	return count > 0
}

// joined asks each statement as it was in the list: those ahead of it that have
// become one with it have been asked, too.
func joined(list []*line) []*line {
	var made []*line
	for i, l := range list {
		if i == 0 || !list[i-1].goesWith(l) {
			made = append(made, l)
			continue
		}
		first := made[len(made)-1]
		for j, inner := range l.lists {
			first.lists[j] = append(first.lists[j], inner...)
		}
	}
	return made
}
