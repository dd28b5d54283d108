package types

import (
	"slices"

	"metronome/api"
	"metronome/bv"
)

// part is a part of an expression: its kids' types, and what is wrong with it.
type part struct {
	*asker
	exp   api.Exp
	kids  []api.Type
	wrong api.Errno
}

func one(t api.Type) []api.Type { return []api.Type{t} }

func (p *part) unknown() []api.Type {
	p.wrong = api.ErrType
	return nil
}

func (p *part) literal() []api.Type { return one(p.exp.T) }

func (p *part) variable() []api.Type {
	t, ok := p.vars[p.exp.Name]
	p.must(api.ErrName, func() bool { return ok })
	return one(t)
}

func (p *part) unary() []api.Type {
	_, ok := bv.Un(p.exp.Sub, p.kids[0].Kind, 0)
	p.must(api.ErrType, all(isScalar, p.kids...), func() bool { return ok })
	return one(p.kids[0])
}

func (p *part) binary() []api.Type {
	_, kind, ok := bv.Bin(p.exp.Sub, p.kids[0].Kind, 0, 0)
	p.must(api.ErrType, all(isScalar, p.kids...), same(p.kids...), func() bool { return ok })
	return one(scalar(kind))
}

func (p *part) choice() []api.Type {
	p.must(api.ErrType, all(isBool, p.kids[0]), same(p.kids[1:]...))
	return one(p.kids[1])
}

func (p *part) alike() []api.Type {
	p.must(api.ErrType, same(p.kids...))
	return one(p.kids[0])
}

func (p *part) sampled() []api.Type {
	p.must(api.ErrType, all(isBool, p.vars[p.exp.Name]), same(p.kids...))
	return one(p.kids[0])
}

func (p *part) cast() []api.Type {
	p.must(api.ErrType, all(isScalar, p.kids...))
	return one(p.exp.T)
}

func (p *part) tick() []api.Type {
	p.must(api.ErrCount, within(1, p.exp.N, api.MaxPeriod), func() bool { return p.exp.M < p.exp.N })
	return one(scalar(api.Bool))
}

func (p *part) array() []api.Type {
	p.must(api.ErrType, all(isScalar, p.kids...), same(p.kids...))
	p.must(api.ErrCount, within(1, len(p.kids), api.MaxSize))
	return one(api.Type{Kind: p.kids[0].Kind, Len: len(p.kids)})
}

func (p *part) index() []api.Type {
	p.must(api.ErrType, all(isArray, p.kids...))
	p.must(api.ErrCount, within(0, p.exp.N, p.kids[0].Len-1))
	return one(scalar(p.kids[0].Kind))
}

func (p *part) rep() []api.Type {
	p.must(api.ErrType, all(isScalar, p.kids...))
	p.must(api.ErrCount, within(1, p.exp.N, api.MaxSize))
	return one(api.Type{Kind: p.kids[0].Kind, Len: p.exp.N})
}

// are demands that the kids are of these types, one by one.
func (p *part) are(types ...api.Type) demand {
	return func() bool { return slices.Equal(p.kids, types) }
}
