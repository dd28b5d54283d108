package stream

import (
	"metronome/api"
)

// call is an instance that is activated with its arguments' values.
type call struct {
	*instance
	args []part
}

func (c call) value() []int { return c.activate(joined(c.args), false) }

// resetCall is one whose instance is a new one where a condition holds.
type resetCall struct {
	call
	again part
}

func (c resetCall) value() []int {
	return c.activate(joined(c.args), isTrue(c.again.value()))
}

// answer is the type of a call's first output: a call that has not just one
// stands in an equation alone, which does not ask for it.
func (in *instance) answer() api.Type {
	if len(in.outs) == 0 {
		return api.Type{}
	}
	return in.outs[0].Type
}

func (b *body) called(e api.Exp) part {
	c := call{b.callee(e.Name, len(e.Kids)), b.parts(e.Kids)}
	return part{c.answer(), c.value}
}

func (b *body) resettable(e api.Exp) part {
	kids := b.parts(e.Kids)
	last := len(kids) - 1
	c := resetCall{call{b.callee(e.Name, last), kids[:last]}, kids[last]}
	return part{c.answer(), c.value}
}

// each makes an instance for each element of an array.
func (b *body) each(name string, args int, of part) []*instance {
	var all []*instance
	for range width(of.Type) {
		all = append(all, b.callee(name, args))
	}
	return all
}

func (b *body) mapped(e api.Exp) part {
	kids := b.parts(e.Kids)
	all := b.each(e.Name, len(kids), kids[0])
	return part{api.Type{Kind: all[0].answer().Kind, Len: len(all)}, func() []int {
		var values []int
		for i, in := range all {
			values = append(values, in.activate(elements(kids, i), false)...)
		}
		return values
	}}
}

// elements answers the values that the arrays have at a place.
func elements(arrays []part, i int) []int {
	var all []int
	for _, a := range arrays {
		all = append(all, a.value()[i])
	}
	return all
}

func (b *body) folded(e api.Exp) part {
	kids := b.kids(e, 2)
	all := b.each(e.Name, 2, kids[1])
	return part{kids[0].Type, func() []int {
		value, list := kids[0].value(), kids[1].value()
		for i, in := range all {
			value = in.activate([]int{value[0], list[i]}, false)
		}
		return value
	}}
}
