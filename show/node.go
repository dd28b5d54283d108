package show

import (
	"strconv"
	"strings"

	"metronome/api"
)

func (p *printer) node(n api.Node) {
	p.line(0, "node ", n.Name, "(", decls(n.Ins), ") returns (", decls(n.Outs), ")")
	p.locals(0, n.Locals)
	p.line(0, "let")
	p.items(1, n.Items)
	p.line(0, "tel")
}

func decls(vars []api.Var) string {
	var texts []string
	for _, v := range vars {
		texts = append(texts, decl(v))
	}
	return strings.Join(texts, "; ")
}

func decl(v api.Var) string { return v.Name + ": " + typeText(v.T) }

func typeText(t api.Type) string {
	if t.Len == 0 {
		return kindText(t.Kind)
	}
	return kindText(t.Kind) + "^" + strconv.Itoa(t.Len)
}

func (p *printer) locals(deep int, vars []api.Var) {
	if len(vars) == 0 {
		return
	}
	p.line(deep, "var")
	for _, v := range vars {
		p.line(deep+1, decl(v), clockText(v.Clock), ";")
	}
}

func clockText(clock []api.Edge) string {
	if len(clock) == 0 {
		return ""
	}
	var texts []string
	for _, e := range clock {
		texts = append(texts, edgeText(e))
	}
	return " when " + strings.Join(texts, " and ")
}

func (p *printer) items(deep int, items []api.Item) {
	for _, i := range items {
		if len(i.States) > 0 {
			p.automaton(deep, i.States)
		} else {
			p.equation(deep, i)
		}
	}
}

func (p *printer) equation(deep int, i api.Item) {
	p.blanks(deep)
	p.put(leftSide(i.Names), " = ")
	p.exp(i.E)
	p.put(";\n")
}

func leftSide(names []string) string {
	all := strings.Join(names, ", ")
	if len(names) == 1 {
		return all
	}
	return "(" + all + ")"
}

func (p *printer) automaton(deep int, states []api.State) {
	p.line(deep, "automaton")
	for _, s := range states {
		p.line(deep, "state ", s.Name)
		p.state(deep+1, s)
	}
	p.line(deep, "end")
}

// state prints what is within a state.
func (p *printer) state(deep int, s api.State) {
	p.transitions(deep, "unless ", s.Unless)
	p.locals(deep, s.Locals)
	p.line(deep, "do")
	p.items(deep+1, s.Items)
	p.transitions(deep, "until ", s.Until)
}

func (p *printer) transitions(deep int, word string, all []api.Trans) {
	for _, t := range all {
		p.blanks(deep)
		p.put(word)
		p.exp(t.Cond)
		p.put(goesOn(t.Cont), t.To, ";\n")
	}
}

func goesOn(cont bool) string {
	if cont {
		return " continue "
	}
	return " then "
}
