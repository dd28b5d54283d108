package show

import (
	"strconv"

	"metronome/api"
)

// byForm answers what prints each form. Forms are told apart here alone.
func byForm() [api.EFold + 1]form {
	return [...]form{
		api.ELit:   (*printer).literal,
		api.EVar:   (*printer).variable,
		api.EUn:    (*printer).unary,
		api.EBin:   (*printer).binary,
		api.EIf:    (*printer).choice,
		api.EPre:   (*printer).pre,
		api.EArrow: (*printer).arrow,
		api.EFby:   (*printer).fby,
		api.EWhen:  (*printer).when,
		api.EMerge: (*printer).merge,
		api.ECast:  (*printer).cast,
		api.ETick:  (*printer).tick,
		api.ECall:  (*printer).call,
		api.EReset: (*printer).reset,
		api.EArr:   (*printer).array,
		api.EIndex: (*printer).index,
		api.ERep:   (*printer).rep,
		api.EMap:   (*printer).mapped,
		api.EFold:  (*printer).fold,
	}
}

func (p *printer) exp(e api.Exp) {
	if e.Form < api.ELit || e.Form >= len(p.forms) {
		p.put(unknown)
		return
	}
	p.forms[e.Form](p, e)
}

func (p *printer) literal(e api.Exp) {
	switch {
	case e.T.Kind == api.Bool && e.N == 0:
		p.put("false")
	case e.T.Kind == api.Bool:
		p.put("true")
	case isBare(e):
		p.put(digits(e.T.Kind, e.N), kindText(e.T.Kind))
	default:
		p.put("(", digits(e.T.Kind, e.N), kindText(e.T.Kind), ")")
	}
}

// isBare tells whether an expression's text begins with a digit: it is that of
// a number without a sign, which stands in no brackets.
func isBare(e api.Exp) bool {
	return e.Form == api.ELit && e.T.Kind != api.Bool && (e.N >= 0 || e.T.Kind == api.U64)
}

// apart adds the texts around a kid, and brackets around it if it is bare: a
// `-` ahead would be taken as a part of the number.
func (p *printer) apart(kids []api.Exp, ahead, behind string) {
	if len(kids) > 0 && isBare(kids[0]) {
		ahead, behind = ahead+"(", ")"+behind
	}
	p.around(kids, ahead, behind)
}

func (p *printer) variable(e api.Exp) { p.put(e.Name) }

func (p *printer) unary(e api.Exp) { p.apart(e.Kids, "("+opText(e.Sub)+" ", ")") }

func (p *printer) binary(e api.Exp) { p.around(e.Kids, "(", " "+opText(e.Sub)+" ", ")") }

func (p *printer) choice(e api.Exp) { p.around(e.Kids, "(if ", " then ", " else ", ")") }

func (p *printer) pre(e api.Exp) { p.around(e.Kids, "(pre ", ")") }

func (p *printer) arrow(e api.Exp) { p.around(e.Kids, "(", " -> ", ")") }

func (p *printer) fby(e api.Exp) { p.around(e.Kids, "(", " fby ", ")") }

func (p *printer) when(e api.Exp) {
	edge := edgeText(api.Edge{Name: e.Name, On: e.N != 0})
	p.around(e.Kids, "when(", ", "+edge+")")
}

func (p *printer) merge(e api.Exp) { p.around(e.Kids, "merge("+e.Name+", ", ", ", ")") }

func (p *printer) cast(e api.Exp) { p.around(e.Kids, "cast("+kindText(e.T.Kind)+", ", ")") }

func (p *printer) tick(e api.Exp) {
	p.put("tick(", strconv.Itoa(e.N), ", ", strconv.Itoa(e.M), ")")
}

func (p *printer) call(e api.Exp) {
	p.put(e.Name, "(")
	p.list(e.Kids)
	p.put(")")
}

// reset prints the call of all kids but the last one, which is the condition.
func (p *printer) reset(e api.Exp) {
	args := max(0, len(e.Kids)-1)
	p.put("reset(", e.Name, "(")
	p.list(e.Kids[:args])
	p.around(e.Kids[args:], "), ", ")")
}

func (p *printer) array(e api.Exp) {
	p.put("[")
	p.list(e.Kids)
	p.put("]")
}

func (p *printer) index(e api.Exp) { p.apart(e.Kids, "", "["+strconv.Itoa(e.N)+"]") }

func (p *printer) rep(e api.Exp) { p.around(e.Kids, "rep(", ", "+strconv.Itoa(e.N)+")") }

func (p *printer) mapped(e api.Exp) {
	p.put("map(", e.Name, ", ")
	p.list(e.Kids)
	p.put(")")
}

func (p *printer) fold(e api.Exp) { p.around(e.Kids, "fold("+e.Name+", ", ", ", ")") }

// opText answers the word or sign of an operation. A sign that ends as another
// one does begins here, and falls through to that one for the rest.
func opText(op int) string {
	begin := ""
	switch op {
	case api.OpNot:
		return "not"
	case api.OpAdd:
		return "+"
	case api.OpNeg, api.OpSub:
		return "-"
	case api.OpMul:
		return "*"
	case api.OpDiv:
		return "/"
	case api.OpMod:
		return "mod"
	case api.OpAnd:
		return "&"
	case api.OpOr:
		return "|"
	case api.OpXor:
		return "^"
	case api.OpNe:
		return "<>"
	case api.OpGe:
		return ">="
	case api.OpImp:
		return "=>"
	case api.OpShl:
		begin = "<"
		fallthrough
	case api.OpLt:
		return begin + "<"
	case api.OpShr:
		begin = ">"
		fallthrough
	case api.OpGt:
		return begin + ">"
	case api.OpLe:
		begin = "<"
		fallthrough
	case api.OpEq:
		return begin + "="
	}
	return unknown
}
