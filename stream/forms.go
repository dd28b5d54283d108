package stream

import (
	"slices"

	"metronome/api"
	"metronome/bv"
)

// form makes the part of an expression of one form.
type form func(b *body, e api.Exp) part

func allForms() map[int]form {
	return map[int]form{
		api.ELit:   (*body).literal,
		api.EVar:   (*body).variable,
		api.EUn:    (*body).unary,
		api.EBin:   (*body).binary,
		api.EIf:    (*body).choice,
		api.EPre:   (*body).before,
		api.EArrow: (*body).begun,
		api.EFby:   (*body).followed,
		api.EWhen:  (*body).sampled,
		api.EMerge: (*body).merged,
		api.ECast:  (*body).cast,
		api.ETick:  (*body).ticked,
		api.ECall:  (*body).called,
		api.EReset: (*body).resettable,
		api.EArr:   (*body).array,
		api.EIndex: (*body).element,
		api.ERep:   (*body).repeated,
		api.EMap:   (*body).mapped,
		api.EFold:  (*body).folded,
	}
}

// part makes the part of an expression. It is weighed ahead of its kids, so
// that no more is made of a node than may be.
func (b *body) part(e api.Exp) part {
	b.in.weigh()
	build, ok := b.in.forms[e.Form]
	must(ok)
	made := build(b, e)
	c := &cell{in: b.in, work: made.value}
	return part{made.Type, c.value}
}

func (b *body) parts(list []api.Exp) []part {
	var all []part
	for _, e := range list {
		all = append(all, b.part(e))
	}
	return all
}

// kids answers those of a form that has so many.
func (b *body) kids(e api.Exp, count int) []part {
	must(len(e.Kids) == count)
	return b.parts(e.Kids)
}

func (b *body) literal(e api.Exp) part {
	value := slices.Repeat([]int{e.N}, width(e.T))
	return part{e.T, func() []int { return value }}
}

func (b *body) variable(e api.Exp) part {
	v := b.find(e.Name)
	return part{v.Type, v.value}
}

func known(n int, ok bool) []int {
	must(ok)
	return []int{n}
}

func (b *body) unary(e api.Exp) part {
	kid := b.kids(e, 1)[0]
	return part{kid.Type, func() []int {
		return known(bv.Un(e.Sub, kid.Kind, kid.value()[0]))
	}}
}

func (b *body) binary(e api.Exp) part {
	kids := b.kids(e, 2)
	_, kind, _ := bv.Bin(e.Sub, kids[0].Kind, 0, 0)
	return part{api.Type{Kind: kind}, func() []int {
		n, _, ok := bv.Bin(e.Sub, kids[0].Kind, kids[0].value()[0], kids[1].value()[0])
		return known(n, ok)
	}}
}

func (b *body) cast(e api.Exp) part {
	kid := b.kids(e, 1)[0]
	return part{e.T, func() []int {
		return known(bv.Cast(kid.Kind, e.T.Kind, kid.value()[0]))
	}}
}

// choice asks both, the one that is not chosen, too: what they remember moves.
func (b *body) choice(e api.Exp) part {
	kids := b.kids(e, 3)
	return part{kids[1].Type, func() []int {
		yes, no := kids[1].value(), kids[2].value()
		if isTrue(kids[0].value()) {
			return yes
		}
		return no
	}}
}

// sampled answers the kid itself. It is on its variable's clock, and so it may
// be there where nobody asks for what is sampled.
func (b *body) sampled(e api.Exp) part {
	kid := b.kids(e, 1)[0]
	b.duties = append(b.duties, duty{b.find(e.Name).there, kid.value})
	return kid
}

func (b *body) merged(e api.Exp) part {
	by, kids := b.find(e.Name), b.kids(e, 2)
	return part{kids[0].Type, func() []int {
		if isTrue(by.value()) {
			return kids[0].value()
		}
		return kids[1].value()
	}}
}

func (b *body) array(e api.Exp) part {
	kids := b.parts(e.Kids)
	t := api.Type{Kind: kids[0].Kind, Len: len(kids)}
	must(t.Len <= api.MaxSize)
	return part{t, func() []int { return elements(kids, 0) }}
}

func (b *body) element(e api.Exp) part {
	kid := b.kids(e, 1)[0]
	return part{api.Type{Kind: kid.Kind}, func() []int { return kid.value()[e.N:][:1] }}
}

func (b *body) repeated(e api.Exp) part {
	kid := b.kids(e, 1)[0]
	t := api.Type{Kind: kid.Kind, Len: e.N}
	must(e.N <= api.MaxSize)
	return part{t, func() []int { return slices.Repeat(kid.value()[:1], e.N) }}
}

// joined answers the values of parts, one behind the other.
func joined(parts []part) []int {
	var all []int
	for _, p := range parts {
		all = append(all, p.value()...)
	}
	return all
}
