package normal

import (
	"strconv"

	"metronome/api"
)

// maker takes the expressions of a flat program apart.
type maker struct {
	core  api.Core
	vars  map[string]api.CVar // those that the program had
	forms map[int]form
	fresh func() string
}

func newMaker(c api.Core) *maker {
	m := &maker{vars: map[string]api.CVar{}}
	m.core = api.Core{Ins: m.enter(c.Ins), Outs: m.enter(c.Outs), Locals: m.enter(c.Locals)}
	m.forms, m.fresh = m.byForm(), m.namer()
	return m
}

// enter lets variables be known, and answers a copy of them.
func (m *maker) enter(list []api.CVar) []api.CVar {
	var all []api.CVar
	for _, v := range list {
		m.vars[v.Name] = v
		all = append(all, api.CVar{Name: v.Name, Kind: v.Kind, Clock: joined(v.Clock)})
	}
	return all
}

// joined answers a new clock of edges behind others.
func joined(ahead []api.Edge, more ...api.Edge) []api.Edge {
	var all []api.Edge
	all = append(all, ahead...)
	return append(all, more...)
}

// namer answers what tells names, each once, that no variable of the program
// has.
func (m *maker) namer() func() string {
	count := 0
	return func() string {
		for {
			name := "t" + strconv.Itoa(count)
			count++
			if _, ok := m.vars[name]; !ok {
				return name
			}
		}
	}
}

// takeApart adds the equations, each behind those of its parts.
func (m *maker) takeApart(eqs []api.CEq) {
	for _, q := range eqs {
		made := bare(q)
		if isPlain(made.E) {
			goto whole
		}
		m.split(made.E, m.vars[q.Name].Clock)
	whole:
		m.core.Eqs = append(m.core.Eqs, made)
	}
}

// split lets each kid of a part on that clock be a leaf, and answers the part's
// kind. The list of kids is the maker's own: it is written over.
func (m *maker) split(e api.CExp, on []api.Edge) int { return m.forms[e.Form](e, on) }

// name lets a variable on that clock stand where a part stood, unless that is a
// leaf, and answers the part's kind.
func (m *maker) name(part *api.CExp, on []api.Edge) int {
	kind := m.split(*part, on)
	if isLeaf(*part) {
		return kind
	}
	v := api.CVar{Name: m.fresh(), Kind: kind, Clock: joined(on)}
	m.core.Locals = append(m.core.Locals, v)
	m.core.Eqs = append(m.core.Eqs, api.CEq{Form: api.CDef, Name: v.Name, E: *part})
	*part = api.CExp{Form: api.EVar, Name: v.Name}
	return kind
}
