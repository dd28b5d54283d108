package types

import (
	"slices"
	"strconv"

	"metronome/api"
)

// An oracle of P601 and P602 that goes through a whole program, gathers all
// that is wrong in it, in order, and takes the first; it goes by forms in one
// switch, and looks for names in lists.

// said is a fault, and by which rule it is one.
type said struct {
	fault
	rule string
}

type oracle struct {
	program api.Program
	wrong   []said
}

func (o *oracle) first() said { return append(o.wrong, said{})[0] }

func (o *oracle) say(is bool, at int, what api.Errno, rule string) {
	if is {
		o.wrong = append(o.wrong, said{fault{at, what}, rule})
	}
}

func oracleCheck(p api.Program) said {
	o := &oracle{program: p}
	for _, n := range p.Nodes {
		vars := slices.Concat(n.Ins, n.Outs, n.Locals)
		o.sizes(vars, "node")
		for _, v := range n.Locals {
			o.clock(vars, v, "node")
		}
		o.items(vars, n.Items)
	}
	return o.first()
}

func (o *oracle) sizes(vars []api.Var, of string) {
	for _, v := range vars {
		o.say(v.T.Len > 16, v.At, api.ErrCount, of+" size")
	}
}

func (o *oracle) clock(all []api.Var, v api.Var, of string) {
	for _, e := range v.Clock {
		o.say(lookup(all, e.Name) != kind(api.Bool), v.At, api.ErrType, of+" clock")
	}
}

func lookup(all []api.Var, name string) (t api.Type) {
	for _, v := range all {
		if v.Name == name {
			t = v.T
		}
	}
	return t
}

func (o *oracle) items(all []api.Var, items []api.Item) {
	for _, i := range items {
		for _, s := range i.States {
			o.state(all, s)
		}
		if len(i.States) > 0 {
			continue
		}
		types := o.exp(all, i.E)
		if types == nil {
			continue
		}
		o.say(len(types) != len(i.Names), i.At, api.ErrCount, "equation count")
		for n, name := range i.Names {
			o.say(n < len(types) && types[n] != lookup(all, name), i.At, api.ErrType, "equation type")
		}
	}
}

func (o *oracle) state(around []api.Var, s api.State) {
	all := slices.Concat(around, s.Locals)
	o.sizes(s.Locals, "state")
	for _, v := range s.Locals {
		o.clock(all, v, "state")
	}
	o.transitions(around, s.Unless, "unless")
	o.items(all, s.Items)
	o.transitions(all, s.Until, "until")
}

func (o *oracle) transitions(all []api.Var, list []api.Trans, of string) {
	for _, t := range list {
		if types := o.exp(all, t.Cond); types != nil {
			o.say(len(types) != 1 || types[0] != kind(api.Bool), t.At, api.ErrType, of)
		}
	}
}

// exp answers the types of an expression; nil, and something said, if it has none.
func (o *oracle) exp(all []api.Var, e api.Exp) []api.Type {
	before := len(o.wrong)
	var kids []api.Type
	for _, k := range e.Kids {
		types := o.exp(all, k)
		o.say(types != nil && len(types) != 1, k.At, api.ErrCount, "kid")
		kids = append(kids, append(types, api.Type{})[0])
	}
	if len(o.wrong) > before {
		return nil
	}
	say := func(is bool, what api.Errno) {
		o.say(is, e.At, what, "form "+strconv.Itoa(e.Form)+" error "+strconv.Itoa(int(what)))
	}
	types := o.forms(all, e, kids, say)
	if len(o.wrong) > before {
		return nil
	}
	return types
}

var numbers = []int{api.I8, api.I16, api.I32, api.I64, api.U8, api.U16, api.U32, api.U64}

// operation answers the kind of an operation's value; 0, if there is none.
func operation(form, op, k int) int {
	switch number := slices.Contains(numbers, k); {
	case form == api.EUn && (op == api.OpNot || op == api.OpNeg && number):
		return k
	case form == api.EUn:
		return 0
	case op == api.OpEq, op == api.OpNe, op >= api.OpLt && op <= api.OpGe && number:
		return api.Bool
	case op == api.OpAnd, op == api.OpOr, op == api.OpXor, op == api.OpImp && k == api.Bool, slices.Contains([]int{api.OpAdd, api.OpSub, api.OpMul, api.OpDiv, api.OpMod, api.OpShl, api.OpShr}, op) && number:
		return k
	}
	return 0
}

func (o *oracle) forms(all []api.Var, e api.Exp, kids []api.Type, say func(bool, api.Errno)) []api.Type {
	last := len(kids) - 1
	switch e.Form {
	case api.ELit:
		return []api.Type{e.T}
	case api.EVar:
		return []api.Type{lookup(all, e.Name)}
	case api.EUn, api.EBin:
		say(kids[0].Len > 0 || kids[0] != kids[last] || operation(e.Form, e.Sub, kids[0].Kind) == 0, api.ErrType)
		return []api.Type{kind(operation(e.Form, e.Sub, kids[0].Kind))}
	case api.EIf:
		say(kids[0] != kind(api.Bool) || kids[1] != kids[2], api.ErrType)
		return kids[2:]
	case api.EPre, api.EArrow, api.EFby:
		say(kids[0] != kids[last], api.ErrType)
		return kids[:1]
	case api.EWhen, api.EMerge:
		say(lookup(all, e.Name) != kind(api.Bool) || kids[0] != kids[last], api.ErrType)
		return kids[:1]
	case api.ECast:
		say(kids[0].Len > 0, api.ErrType)
		return []api.Type{e.T}
	case api.ETick:
		say(e.N < 1 || e.N > 64 || e.M >= e.N, api.ErrCount)
		return []api.Type{kind(api.Bool)}
	case api.EArr:
		say(kids[0].Len > 0 || slices.ContainsFunc(kids, func(t api.Type) bool { return t != kids[0] }), api.ErrType)
		return []api.Type{array(kids[0].Kind, len(kids))}
	case api.EIndex:
		say(kids[0].Len == 0, api.ErrType)
		say(e.N >= kids[0].Len, api.ErrCount)
		return []api.Type{kind(kids[0].Kind)}
	case api.ERep:
		say(kids[0].Len > 0, api.ErrType)
		say(e.N < 1 || e.N > 16, api.ErrCount)
		return []api.Type{array(kids[0].Kind, e.N)}
	}
	return o.calls(e, kids, say)
}

func declared(vars []api.Var) (types []api.Type) {
	for _, v := range vars {
		types = append(types, v.T)
	}
	return types
}

func (o *oracle) calls(e api.Exp, kids []api.Type, say func(bool, api.Errno)) []api.Type {
	n := o.program.Nodes[slices.IndexFunc(o.program.Nodes, func(n api.Node) bool { return n.Name == e.Name })]
	ins, outs := declared(n.Ins), declared(n.Outs)
	isArray := func(t api.Type) bool { return t.Len > 0 }
	anyArray := slices.ContainsFunc(slices.Concat(ins, outs), isArray)
	switch e.Form {
	case api.EReset:
		ins = append(ins, kind(api.Bool))
		fallthrough
	case api.ECall:
		say(len(kids) != len(ins), api.ErrCount)
		for i := range min(len(kids), len(ins)) {
			say(kids[i] != ins[i], api.ErrType)
		}
		return outs
	case api.EMap:
		say(len(outs) != 1 || len(ins) != len(kids) || anyArray, api.ErrCount)
		for i := range min(len(kids), len(ins)) {
			say(!isArray(kids[i]) || kids[i].Len != kids[0].Len || kids[i].Kind != ins[i].Kind, api.ErrType)
		}
		return []api.Type{array(outs[0].Kind, kids[0].Len)}
	}
	say(len(outs) != 1 || len(ins) != 2 || anyArray, api.ErrCount)
	say(len(ins) == 2 && (ins[0].Kind != outs[0].Kind || kids[0] != kind(ins[0].Kind) || !isArray(kids[1]) || kids[1].Kind != ins[1].Kind), api.ErrType)
	return outs
}
