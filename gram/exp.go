package gram

import (
	"metronome/api"
	"metronome/bv"
)

// sign is how an operation on two parts is written, and what it makes of them.
type sign struct {
	text      string
	form, sub int
}

// rule is a rule of the grammar that is one of the levels of precedence: how
// its expressions are read, by which signs it joins two.
type rule struct {
	read  func(level int) api.Exp
	signs []sign
}

// byPrecedence answers the rules from arrow to unary, the loosest first.
func (p *parser) byPrecedence() []rule {
	return []rule{
		{p.fromRight, []sign{{"->", api.EArrow, 0}}},
		{p.fromRight, []sign{{"fby", api.EFby, 0}}},
		{p.fromRight, []sign{{"=>", api.EBin, api.OpImp}}},
		{p.fromLeft, []sign{{"or", api.EBin, api.OpOr}, {"xor", api.EBin, api.OpXor}}},
		{p.fromLeft, []sign{{"and", api.EBin, api.OpAnd}}},
		{p.once, []sign{
			{"=", api.EBin, api.OpEq}, {"<>", api.EBin, api.OpNe},
			{"<", api.EBin, api.OpLt}, {"<=", api.EBin, api.OpLe},
			{">", api.EBin, api.OpGt}, {">=", api.EBin, api.OpGe},
		}},
		{p.fromLeft, []sign{{"|", api.EBin, api.OpOr}, {"^", api.EBin, api.OpXor}}},
		{p.fromLeft, []sign{{"&", api.EBin, api.OpAnd}}},
		{p.fromLeft, []sign{{"<<", api.EBin, api.OpShl}, {">>", api.EBin, api.OpShr}}},
		{p.fromLeft, []sign{{"+", api.EBin, api.OpAdd}, {"-", api.EBin, api.OpSub}}},
		{p.fromLeft, []sign{{"*", api.EBin, api.OpMul}, {"/", api.EBin, api.OpDiv}, {"mod", api.EBin, api.OpMod}}},
		{p.unary, nil},
	}
}

func (p *parser) read(level int) api.Exp { return p.rules[level].read(level) }

func (p *parser) exp() api.Exp {
	p.need(p.seesExp())
	return within(p, p.loosest)
}

func (p *parser) loosest() api.Exp { return p.read(0) }

func (p *parser) tightest() api.Exp { return p.read(len(p.rules) - 1) }

// seesExp tells whether the next token may begin an expression.
func (p *parser) seesExp() bool {
	switch p.next().Text {
	case "not", "-", "pre", "(", "[", "true", "false", "if", "when", "merge", "cast", "tick", "reset", "rep", "map", "fold":
		return true
	}
	return p.seesName() || p.seesValue()
}

// seesValue tells whether the next token is a number with a kind.
func (p *parser) seesValue() bool {
	return p.seesNumber() && p.next().T.Kind != 0
}

func (p *parser) fromRight(level int) api.Exp {
	e := p.read(level + 1)
	if s, ok := p.sign(level); ok {
		return join(s, e, p.read(level))
	}
	return e
}

func (p *parser) fromLeft(level int) api.Exp {
	e := p.read(level + 1)
	for {
		s, ok := p.sign(level)
		if !ok {
			return e
		}
		e = join(s, e, p.read(level+1))
	}
}

// once joins two parts at most: `a < b < c` is none.
func (p *parser) once(level int) api.Exp {
	e := p.read(level + 1)
	if s, ok := p.sign(level); ok {
		return join(s, e, p.read(level+1))
	}
	return e
}

// sign takes the next token, if it is one of the level's signs.
func (p *parser) sign(level int) (sign, bool) {
	for _, s := range p.rules[level].signs {
		if p.accept(s.text) {
			return s, true
		}
	}
	return sign{}, false
}

func join(s sign, a, b api.Exp) api.Exp {
	return api.Exp{Form: s.form, Sub: s.sub, Kids: []api.Exp{a, b}, At: a.At}
}

// unary has no level below its own to ask: it is the tightest.
func (p *parser) unary(int) api.Exp {
	switch p.next().Text {
	case "not", "-", "pre":
		return within(p, p.prefixed)
	}
	return p.indexed(p.prim())
}

// prefixed reads a unary that begins with its operation. A `-` and the VALUE
// behind it are one literal, an index behind them is this literal's.
func (p *parser) prefixed() api.Exp {
	t := p.take()
	e := api.Exp{Form: api.EUn, At: t.At}
	switch t.Text {
	case "pre":
		e.Form = api.EPre
	case "not":
		e.Sub = api.OpNot
	default:
		if p.seesValue() {
			return p.indexed(p.opposite(t.At))
		}
		e.Sub = api.OpNeg
	}
	e.Kids = []api.Exp{p.tightest()}
	return e
}

// opposite reads the VALUE behind a `-` that stands at that place.
func (p *parser) opposite(at int) api.Exp {
	t := p.take()
	return literal(t.T.Kind, bv.Wrap(t.T.Kind, -t.N), at)
}

func literal(kind, n, at int) api.Exp {
	return api.Exp{Form: api.ELit, T: api.Type{Kind: kind}, N: n, At: at}
}

// indexed reads the indices behind an expression.
func (p *parser) indexed(e api.Exp) api.Exp {
	for p.accept("[") {
		e = api.Exp{Form: api.EIndex, N: p.size(), Kids: []api.Exp{e}, At: e.At}
		p.expect("]")
	}
	return e
}
