package gram

import "metronome/api"

// part reads a part of a form into it.
type part func(e *api.Exp)

func (p *parser) prim() api.Exp {
	switch {
	case p.seesValue():
		return p.value()
	case p.seesName():
		return p.named()
	case p.accept("("):
		e := p.exp()
		p.expect(")")
		return e
	}
	return p.form()
}

// value reads a VALUE without a `-`. A token of a signed kind is below 0 only
// where the number is too great but for the `-` that is missing.
func (p *parser) value() api.Exp {
	t := p.next()
	p.need(t.T.Kind > api.I64 || t.N >= 0)
	p.take()
	return literal(t.T.Kind, t.N, t.At)
}

// named reads a variable or a call.
func (p *parser) named() api.Exp {
	e := api.Exp{Form: api.EVar, At: p.next().At, Name: p.name()}
	if p.sees("(") {
		e.Form = api.ECall
		e.Kids = p.arguments()
	}
	return e
}

// form reads the forms that begin with a word of their own, or with `[`.
func (p *parser) form() api.Exp {
	p.need(p.seesExp())
	t := p.take()
	e := api.Exp{At: t.At}
	switch t.Text {
	case "true":
		e.N = 1
		fallthrough
	case "false":
		e.Form, e.T.Kind = api.ELit, api.Bool
	case "[":
		e.Form, e.Kids = api.EArr, p.exps()
		p.expect("]")
	case "if":
		e.Form = api.EIf
		p.choice(&e)
	case "when":
		e.Form = api.EWhen
		p.parts(&e, p.kid, p.edgeOf)
	case "cast":
		e.Form = api.ECast
		p.parts(&e, p.kindTo, p.kid)
	case "tick":
		e.Form = api.ETick
		p.parts(&e, p.sizeN, p.sizeM)
	case "reset":
		e.Form = api.EReset
		p.parts(&e, p.call, p.kid)
	case "rep":
		e.Form = api.ERep
		p.parts(&e, p.kid, p.sizeN)
	case "map":
		e.Form = api.EMap
		p.parts(&e, p.nameOf, p.kids)
	case "merge":
		e.Form = api.EMerge
		p.parts(&e, p.nameOf, p.kid, p.kid)
	case "fold":
		e.Form = api.EFold
		p.parts(&e, p.nameOf, p.kid, p.kid)
	}
	return e
}

// parts reads the parts of a form, in brackets, with commas between them.
func (p *parser) parts(e *api.Exp, parts ...part) {
	before := "("
	for _, read := range parts {
		p.expect(before)
		read(e)
		before = ","
	}
	p.expect(")")
}

func (p *parser) kid(e *api.Exp) { e.Kids = append(e.Kids, p.exp()) }

func (p *parser) kids(e *api.Exp) { e.Kids = p.exps() }

func (p *parser) nameOf(e *api.Exp) { e.Name = p.name() }

func (p *parser) kindTo(e *api.Exp) { e.T.Kind = p.kind() }

func (p *parser) sizeN(e *api.Exp) { e.N = p.size() }

func (p *parser) sizeM(e *api.Exp) { e.M = p.size() }

func (p *parser) edgeOf(e *api.Exp) {
	edge := p.edge()
	e.Name = edge.Name
	if edge.On {
		e.N = 1
	}
}

// call reads the call of a reset, whose condition comes behind its arguments.
func (p *parser) call(e *api.Exp) {
	e.Name = p.name()
	e.Kids = p.arguments()
}

// choice reads an if behind its word.
func (p *parser) choice(e *api.Exp) {
	p.kid(e)
	p.expect("then")
	p.kid(e)
	p.expect("else")
	p.kid(e)
}

func (p *parser) arguments() []api.Exp {
	var kids []api.Exp
	p.expect("(")
	if !p.sees(")") {
		kids = p.exps()
	}
	p.expect(")")
	return kids
}

func (p *parser) exps() []api.Exp {
	return parted(p, ",", p.seesExp, p.exp)
}
