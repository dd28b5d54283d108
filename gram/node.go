package gram

import (
	"slices"

	"metronome/api"
)

func (p *parser) program() api.Program {
	nodes := many(p, api.MaxNodes, p.seesNode, p.node)
	p.need(p.next().Kind == api.TokEnd)
	return api.Program{Nodes: nodes}
}

func (p *parser) seesNode() bool { return p.sees("node") }

func (p *parser) node() api.Node {
	n := api.Node{At: p.expect("node").At, Name: p.name()}
	p.expect("(")
	if !p.sees(")") {
		n.Ins = p.decls()
	}
	p.expect(")")
	p.expect("returns")
	p.expect("(")
	n.Outs = p.decls()
	p.expect(")")
	n.Locals = p.locals()
	p.expect("let")
	n.Items = p.items()
	p.expect("tel")
	return n
}

func (p *parser) decls() []api.Var {
	vars := p.decl(nil)
	for p.accept(";") {
		vars = p.decl(vars)
	}
	return vars
}

// decl adds the variables of one declaration to those of its list, whose names
// are counted together.
func (p *parser) decl(vars []api.Var) []api.Var {
	from := len(vars)
	for more := true; more; more = p.accept(",") {
		p.need(p.seesName())
		p.room(len(vars), api.MaxVars)
		t := p.take()
		vars = append(vars, api.Var{Name: t.Text, At: t.At})
	}
	p.expect(":")
	ty := p.ty()
	for i := from; i < len(vars); i++ {
		vars[i].T = ty
	}
	return vars
}

func (p *parser) ty() api.Type {
	ty := api.Type{Kind: p.kind()}
	if p.accept("^") {
		ty.Len = p.size()
	}
	return ty
}

// locals reads the locals of a node or a state, if it has any.
func (p *parser) locals() []api.Var {
	if !p.accept("var") {
		return nil
	}
	vars := p.local(nil)
	for p.seesName() {
		vars = p.local(vars)
	}
	return vars
}

// local adds the variables of one declaration to those of its list. Each of
// them gets a clock of its own: no two lists of an answer are one.
func (p *parser) local(vars []api.Var) []api.Var {
	from := len(vars)
	vars = p.decl(vars)
	if p.accept("when") {
		clock := parted(p, "and", p.seesEdge, p.edge)
		for i := from; i < len(vars); i++ {
			vars[i].Clock = slices.Clone(clock)
		}
	}
	p.expect(";")
	return vars
}

func (p *parser) seesEdge() bool { return p.seesName() || p.sees("not") }

func (p *parser) edge() api.Edge {
	on := !p.accept("not")
	return api.Edge{Name: p.name(), On: on}
}

func (p *parser) items() []api.Item {
	return some(p, api.MaxItems, p.seesItem, p.item)
}

func (p *parser) seesItem() bool {
	return p.seesName() || p.sees("(") || p.sees("automaton")
}

func (p *parser) item() api.Item {
	if p.sees("automaton") {
		return within(p, p.automaton)
	}
	return p.equation()
}

func (p *parser) equation() api.Item {
	i := api.Item{At: p.next().At}
	if p.accept("(") {
		i.Names = parted(p, ",", p.seesName, p.name)
		p.expect(")")
	} else {
		i.Names = []string{p.name()}
	}
	p.expect("=")
	i.E = p.exp()
	p.expect(";")
	return i
}

func (p *parser) automaton() api.Item {
	i := api.Item{At: p.expect("automaton").At}
	i.States = some(p, api.MaxStates, p.seesState, p.state)
	p.expect("end")
	return i
}

func (p *parser) seesState() bool { return p.sees("state") }

func (p *parser) state() api.State {
	s := api.State{At: p.expect("state").At, Name: p.name()}
	s.Unless = many(p, api.MaxKids, p.seesUnless, p.trans)
	s.Locals = p.locals()
	p.expect("do")
	s.Items = p.items()
	s.Until = many(p, api.MaxKids, p.seesUntil, p.trans)
	return s
}

func (p *parser) seesUnless() bool { return p.sees("unless") }

func (p *parser) seesUntil() bool { return p.sees("until") }

// trans reads a transition, from its word `unless` or `until` on.
func (p *parser) trans() api.Trans {
	p.take()
	cond := p.exp()
	t := api.Trans{Cond: cond, At: cond.At, Cont: p.accept("continue")}
	if !t.Cont {
		p.expect("then")
	}
	t.To = p.name()
	p.expect(";")
	return t
}
