package arrays

import (
	"metronome/api"
	"metronome/bv"
)

// form takes an expression apart that stands at that place.
type form func(e api.Exp, on place) elements

func (x *expander) byForm() map[int]form {
	return map[int]form{
		api.ELit:   x.literal,
		api.EVar:   x.variable,
		api.EUn:    x.unary,
		api.EBin:   x.binary,
		api.EIf:    x.choice,
		api.EPre:   x.before,
		api.EArrow: x.begun,
		api.EFby:   x.begun,
		api.EWhen:  x.sampled,
		api.EMerge: x.merged,
		api.ECast:  x.cast,
		api.ETick:  x.tick,
		api.ECall:  x.call,
		api.EReset: x.call,
		api.EArr:   x.array,
		api.EIndex: x.index,
		api.ERep:   x.repeated,
		api.EMap:   x.mapped,
		api.EFold:  x.folded,
	}
}

func (x *expander) exp(e api.Exp, on place) elements { return x.forms[e.Form](e, on) }

func (x *expander) kids(list []api.Exp, on place) []elements {
	var all []elements
	for _, kid := range list {
		all = append(all, x.exp(kid, on))
	}
	return all
}

func (x *expander) literal(e api.Exp, on place) elements {
	return lift(api.Exp{Form: e.Form, T: scalar(e.T.Kind), N: e.N, At: e.At}, scalar(e.T.Kind))
}

func (x *expander) variable(e api.Exp, on place) elements {
	v := x.vars[e.Name]
	return variables(v.T, e.At, namesOf(v)...)
}

func (x *expander) tick(e api.Exp, on place) elements {
	return lift(api.Exp{Form: e.Form, N: e.N, M: e.M, At: e.At}, scalar(api.Bool))
}

func (x *expander) unary(e api.Exp, on place) elements {
	kid := x.exp(e.Kids[0], on)
	return lift(api.Exp{Form: e.Form, Sub: e.Sub, At: e.At}, kid.t, kid)
}

func (x *expander) binary(e api.Exp, on place) elements {
	kids := x.kids(e.Kids[:2], on)
	_, kind, _ := bv.Bin(e.Sub, kids[0].t.Kind, 0, 0)
	return lift(api.Exp{Form: e.Form, Sub: e.Sub, At: e.At}, scalar(kind), kids...)
}

func (x *expander) cast(e api.Exp, on place) elements {
	kind := scalar(e.T.Kind)
	return lift(api.Exp{Form: e.Form, T: kind, At: e.At}, kind, x.exp(e.Kids[0], on))
}

func (x *expander) choice(e api.Exp, on place) elements {
	kids := x.kids(e.Kids[:3], on)
	kids[0] = x.share(kids[0], kids[1].t.Len, on)
	return lift(api.Exp{Form: e.Form, At: e.At}, kids[1].t, kids...)
}

func (x *expander) before(e api.Exp, on place) elements {
	kid := x.exp(e.Kids[0], on)
	part := lift(api.Exp{Form: e.Form, At: e.At}, kid.t, kid)
	part.late = true
	return part
}

func (x *expander) begun(e api.Exp, on place) elements {
	kids := x.kids(e.Kids[:2], on)
	part := lift(api.Exp{Form: e.Form, At: e.At}, kids[0].t, kids...)
	part.late = kids[0].late
	return part
}

func (x *expander) sampled(e api.Exp, on place) elements {
	kid := x.exp(e.Kids[0], on.onto(x.vars[e.Name].Clock))
	return lift(api.Exp{Form: e.Form, Name: e.Name, N: e.N, At: e.At}, kid.t, kid)
}

func (x *expander) merged(e api.Exp, on place) elements {
	clock := x.vars[e.Name].Clock
	yes := x.exp(e.Kids[0], on.onto(clock, api.Edge{Name: e.Name, On: true}))
	no := x.exp(e.Kids[1], on.onto(clock, api.Edge{Name: e.Name}))
	return lift(api.Exp{Form: e.Form, Name: e.Name, At: e.At}, yes.t, yes, no)
}

// call answers a call within an expression, where there is one output. If that
// is an array of several elements, the call has become one that can't stand
// there.
func (x *expander) call(e api.Exp, on place) elements {
	part := x.applied(e, on)
	if part.t = x.output(e); part.t.Len > 1 {
		return x.hold(part.at(0), part.t, on)
	}
	return part
}

func (x *expander) output(e api.Exp) api.Type { return x.nodes[e.Name].Outs[0].T }

// applied answers a part whose only element is the call, whatever its outputs
// are.
func (x *expander) applied(e api.Exp, on place) elements {
	head, kids := api.Exp{Form: e.Form, Name: e.Name, At: e.At}, x.kids(e.Kids, on.whole())
	return elements{api.Type{}, anyLate(kids...), func(int) api.Exp {
		var all []api.Exp
		for _, k := range kids {
			all = append(all, k.all()...)
		}
		return with(head, all...)
	}}
}

func (x *expander) array(e api.Exp, on place) elements {
	kids := x.kids(e.Kids, on)
	t := api.Type{Kind: kids[0].t.Kind, Len: len(kids)}
	return elements{t, anyLate(kids...), func(i int) api.Exp { return kids[i].at(0) }}
}

func (x *expander) index(e api.Exp, on place) elements {
	kid := x.exp(e.Kids[0], on.single())
	return elements{scalar(kid.t.Kind), kid.late, func(int) api.Exp { return kid.at(e.N) }}
}

func (x *expander) repeated(e api.Exp, on place) elements {
	kid := x.share(x.exp(e.Kids[0], on), e.N, on)
	kid.t.Len = e.N
	return kid
}

func (x *expander) mapped(e api.Exp, on place) elements {
	head, kids := api.Exp{Form: api.ECall, Name: e.Name, At: e.At}, x.kids(e.Kids, on)
	return lift(head, api.Type{Kind: x.output(e).Kind, Len: kids[0].t.Len}, kids...)
}

// folded hands what the node answers of one element on to it with the next one.
func (x *expander) folded(e api.Exp, on place) elements {
	head := api.Exp{Form: api.ECall, Name: e.Name, At: e.At}
	first, list := x.exp(e.Kids[0], on), x.exp(e.Kids[1], on.whole())
	return elements{x.output(e), anyLate(first, list), func(int) api.Exp {
		value := first.at(0)
		for i := range list.t.Len {
			value = with(head, value, list.at(i))
		}
		return value
	}}
}
