package flat

import (
	"slices"

	"metronome/api"
)

// form makes the terms of an expression of one form, element by element; at is
// when it is active.
type form func(b *body, e api.Exp, at *moment) []term

func allForms() map[int]form {
	return map[int]form{
		api.ELit:   (*body).literal,
		api.EVar:   (*body).named,
		api.EUn:    (*body).single,
		api.EBin:   (*body).double,
		api.EIf:    (*body).choice,
		api.EPre:   (*body).before,
		api.EArrow: (*body).begun,
		api.EFby:   (*body).followed,
		api.EWhen:  (*body).sampled,
		api.EMerge: (*body).merged,
		api.ECast:  (*body).cast,
		api.ETick:  (*body).ticked,
		api.ECall:  (*body).called,
		api.EReset: (*body).resettable,
		api.EArr:   (*body).array,
		api.EIndex: (*body).element,
		api.ERep:   (*body).repeated,
		api.EMap:   (*body).mapped,
		api.EFold:  (*body).folded,
	}
}

func (b *body) values(e api.Exp, at *moment) []term {
	b.weight++
	within(b.weight, maxWeight)
	build, ok := b.forms[e.Form]
	must(ok)
	return build(b, e, at)
}

// value answers the term of a scalar.
func (b *body) value(e api.Exp, at *moment) term {
	all := b.values(e, at)
	must(len(all) == 1)
	return all[0]
}

// each makes terms of two values, element by element.
func each(one, other []term, of func(a, b term) term) []term {
	must(len(one) == len(other))
	var all []term
	for i := range one {
		all = append(all, of(one[i], other[i]))
	}
	return all
}

func (b *body) literal(e api.Exp, at *moment) []term {
	return []term{number(e.T.Kind, e.N)}
}

func (b *body) named(e api.Exp, at *moment) []term { return b.find(e.Name).terms }

func (b *body) single(e api.Exp, at *moment) []term {
	return []term{b.unary(e.Sub, b.value(e.Kids[0], at))}
}

func (b *body) double(e api.Exp, at *moment) []term {
	return []term{b.binary(e.Sub, b.value(e.Kids[0], at), b.value(e.Kids[1], at))}
}

func (b *body) cast(e api.Exp, at *moment) []term {
	kid := b.value(e.Kids[0], at)
	return []term{b.term(api.CExp{Form: api.ECast, Kind: e.T.Kind}, e.T.Kind, kid)}
}

func (b *body) choice(e api.Exp, at *moment) []term {
	by, then, other := b.value(e.Kids[0], at), b.values(e.Kids[1], at), b.values(e.Kids[2], at)
	if len(then) > 1 {
		by = b.hold(by)
	}
	return each(then, other, func(t, o term) term { return b.choose(by, t, o) })
}

// sampled answers the kid itself. That is active whenever the variable is there.
func (b *body) sampled(e api.Exp, at *moment) []term {
	return b.values(e.Kids[0], b.when(b.find(e.Name).clock))
}

func (b *body) merged(e api.Exp, at *moment) []term {
	v := b.find(e.Name)
	by, there := v.terms[0], b.when(v.clock)
	then := b.values(e.Kids[0], b.behind(there, by, true))
	other := b.values(e.Kids[1], b.behind(there, by, false))
	return each(then, other, func(t, o term) term { return b.choose(by, t, o) })
}

func (b *body) array(e api.Exp, at *moment) []term {
	var all []term
	for _, kid := range e.Kids {
		all = append(all, b.value(kid, at))
	}
	return all
}

func (b *body) element(e api.Exp, at *moment) []term {
	return b.values(e.Kids[0], at)[e.N : e.N+1 : e.N+1]
}

func (b *body) repeated(e api.Exp, at *moment) []term {
	must(e.N <= api.MaxSize)
	return slices.Repeat([]term{b.hold(b.value(e.Kids[0], at))}, e.N)
}
