package flat

import (
	"metronome/api"
	"metronome/bv"
)

// Where a term becomes one of a variable of its own. Some three of them make no
// expression that is more than a flat program may have.
const (
	maxParts = 500
	maxDeep  = 100
)

// term is an expression of the flat program, its kind, and how great it is. It
// stands in one place, unless it has no kids: lists of an answer share nothing.
type term struct {
	exp         api.CExp
	kind        int
	parts, deep int
}

// atom is a term without kids, as the key of a map.
type atom struct {
	name    string
	kind, n int
}

func (t term) atom() atom { return atom{t.exp.Name, t.kind, t.exp.N} }

func (t term) isLiteral() bool { return t.exp.Form == api.ELit }

// is tells whether it is the literal of a number.
func (t term) is(n int) bool { return t.isLiteral() && t.exp.N == n }

func number(kind, n int) term {
	return term{exp: api.CExp{Form: api.ELit, Kind: kind, N: n}, kind: kind, parts: 1, deep: 1}
}

func yes() term { return number(api.Bool, 1) }

func no() term { return number(api.Bool, 0) }

// term puts one together.
func (m *maker) term(e api.CExp, kind int, kids ...term) term {
	made := term{exp: e, kind: kind, parts: 1, deep: 1}
	for _, k := range kids {
		made.exp.Kids = append(made.exp.Kids, k.exp)
		made.parts += k.parts
		made.deep = max(made.deep, k.deep+1)
	}
	if made.parts > maxParts || made.deep > maxDeep {
		return m.hold(made)
	}
	return made
}

func (m *maker) unary(op int, kid term) term {
	return m.term(api.CExp{Form: api.EUn, Sub: op}, kid.kind, kid)
}

func (m *maker) binary(op int, a, b term) term {
	_, kind, ok := bv.Bin(op, a.kind, 0, 0)
	must(ok)
	return m.term(api.CExp{Form: api.EBin, Sub: op}, kind, a, b)
}

func (m *maker) choose(by, then, other term) term {
	switch {
	case by.is(1):
		return then
	case by.is(0):
		return other
	}
	return m.term(api.CExp{Form: api.EIf}, then.kind, by, then, other)
}

func (m *maker) not(cond term) term {
	if cond.isLiteral() {
		return number(api.Bool, 1-cond.exp.N)
	}
	return m.unary(api.OpNot, cond)
}

// all answers when all conditions hold.
func (m *maker) all(conds ...term) term { return m.joined(api.OpAnd, yes(), no(), conds...) }

// any answers when one of the conditions holds.
func (m *maker) any(conds ...term) term { return m.joined(api.OpOr, no(), yes(), conds...) }

// joined puts conditions together by an operation, of which one truth leaves
// the others as they are, and the opposite says all.
func (m *maker) joined(op int, leaves, says term, conds ...term) term {
	sum := leaves
	for _, c := range conds {
		switch {
		case sum.is(leaves.exp.N):
			sum = c
		case c.is(says.exp.N):
			return says
		case !c.is(leaves.exp.N):
			sum = m.binary(op, sum, c)
		}
	}
	return sum
}
