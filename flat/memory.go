package flat

import (
	"metronome/api"
)

// before: what a memory is at first nobody sees here. It begins anew with the
// others, since what it was in a life ahead is of no use.
func (b *body) before(e api.Exp, at *moment) []term {
	var all []term
	for _, value := range b.values(e.Kids[0], at) {
		all = append(all, b.keep("pre", b.life, at, number(value.kind, 0), value))
	}
	return all
}

func (b *body) begun(e api.Exp, at *moment) []term {
	first, later := b.values(e.Kids[0], at), b.values(e.Kids[1], at)
	return each(first, later, func(f, l term) term { return b.choose(b.isFirst(b.life, at), f, l) })
}

// followed: a literal is what the memory is at first; of anything else it must
// be told when to look at it.
func (b *body) followed(e api.Exp, at *moment) []term {
	first, later := b.values(e.Kids[0], at), b.values(e.Kids[1], at)
	return each(first, later, func(f, l term) term {
		if f.isLiteral() {
			return b.keep("fby", b.life, at, f, l)
		}
		held := b.keep("fby", b.life, at, number(f.kind, 0), l)
		return b.choose(b.isFirst(b.life, at), f, held)
	})
}

// ticked counts activations round and round, unless all ticks are.
func (b *body) ticked(e api.Exp, at *moment) []term {
	must(e.N >= 1 && e.N <= api.MaxPeriod)
	offset := (e.M%e.N + e.N) % e.N
	cond := at.cond()
	if cond.is(1) && b.anew().is(0) {
		ticks := b.local("tick", api.Bool)
		b.emit(api.CEq{Form: api.CTick, Name: ticks.exp.Name, Period: e.N, Offset: offset})
		return []term{ticks}
	}
	one, last := number(api.U8, 1), number(api.U8, e.N-1)
	count := b.memory("count", b.life, number(api.U8, 0), func(was term) term {
		more := b.choose(b.binary(api.OpEq, was, last), number(api.U8, 0), b.binary(api.OpAdd, was, one))
		return b.choose(cond, more, was)
	})
	return []term{b.binary(api.OpEq, count, number(api.U8, offset))}
}
