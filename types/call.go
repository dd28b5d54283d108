package types

import (
	"metronome/api"
)

func typesOf(vars []api.Var) []api.Type {
	var types []api.Type
	for _, v := range vars {
		types = append(types, v.T)
	}
	return types
}

// arraysOf answers arrays of the kinds of these types.
func arraysOf(types []api.Type, size int) []api.Type {
	var arrays []api.Type
	for _, t := range types {
		arrays = append(arrays, api.Type{Kind: t.Kind, Len: size})
	}
	return arrays
}

// called answers the node that a part calls.
func (p *part) called() api.Node {
	n, ok := p.nodes[p.exp.Name]
	p.must(api.ErrName, func() bool { return ok })
	return n
}

func (p *part) call() []api.Type {
	n := p.called()
	return p.applied(n, typesOf(n.Ins))
}

func (p *part) reset() []api.Type {
	n := p.called()
	return p.applied(n, append(typesOf(n.Ins), scalar(api.Bool)))
}

func (p *part) applied(n api.Node, wanted []api.Type) []api.Type {
	p.must(api.ErrCount, func() bool { return len(p.kids) == len(wanted) })
	p.must(api.ErrType, p.are(wanted...))
	return typesOf(n.Outs)
}

func (p *part) mapped() []api.Type {
	n, size := p.called(), p.kids[0].Len
	ins, outs := typesOf(n.Ins), typesOf(n.Outs)
	p.must(api.ErrCount, counts(n, len(p.kids), 1), all(isScalar, ins...), all(isScalar, outs...))
	p.must(api.ErrType, all(isArray, p.kids...), p.are(arraysOf(ins, size)...))
	return arraysOf(outs, size)
}

// folded: what the node answers of one element is what it is given with the
// next one.
func (p *part) folded() []api.Type {
	n := p.called()
	ins, outs := typesOf(n.Ins), typesOf(n.Outs)
	p.must(api.ErrCount, counts(n, 2, 1), all(isScalar, ins...), all(isScalar, outs...))
	p.must(api.ErrType,
		func() bool { return ins[0] == outs[0] && ins[0] == p.kids[0] },
		func() bool { return isArray(p.kids[1]) && ins[1].Kind == p.kids[1].Kind })
	return outs
}
