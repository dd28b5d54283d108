package flat

import (
	"metronome/api"
)

// arguments answers terms that an instance may use as often as it likes.
func (b *body) arguments(list []api.Exp, at *moment) []term {
	var all []term
	for _, e := range list {
		for _, t := range b.values(e, at) {
			all = append(all, b.hold(t))
		}
	}
	return all
}

// instance answers the outputs of an instance of a node.
func (b *body) instance(name string, ins []term, at *moment, l *life) []term {
	place, ok := b.places[name]
	must(ok)
	n := b.nodes[place]
	outs := b.declare(&b.core.Locals, n.Outs)
	b.inline(n, ins, outs, at, l)
	return outs
}

func (b *body) called(e api.Exp, at *moment) []term {
	return b.instance(e.Name, b.arguments(e.Kids, at), at, b.life)
}

// resettable: the memories of the instance begin anew with those around it, and
// where the condition holds at its activations.
func (b *body) resettable(e api.Exp, at *moment) []term {
	last := len(e.Kids) - 1
	ins := b.arguments(e.Kids[:last:last], at)
	again := b.value(e.Kids[last], at)
	anew := b.once(func() term { return b.any(b.anew(), b.all(at.cond(), again)) })
	return b.instance(e.Name, ins, at, newLife(anew))
}

func (b *body) mapped(e api.Exp, at *moment) []term {
	var kids [][]term
	for i := range e.Kids {
		kids = append(kids, b.arguments(e.Kids[i:i+1:i+1], at))
	}
	var all []term
	for i := range kids[0] {
		var ins []term
		for _, list := range kids {
			ins = append(ins, list[i])
		}
		all = append(all, b.instance(e.Name, ins, at, b.life)...)
	}
	return all
}

func (b *body) folded(e api.Exp, at *moment) []term {
	sum := b.arguments(e.Kids[:1:1], at)
	for _, t := range b.arguments(e.Kids[1:2:2], at) {
		sum = b.instance(e.Name, []term{sum[0], t}, at, b.life)
	}
	return sum
}
