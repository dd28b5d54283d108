package stream

import (
	"metronome/api"
)

// before is asked at its first activation, too, where it has no value: noughts
// stand for it, which nobody sees in the end.
func (b *body) before(e api.Exp) part {
	kid, isFirst := b.kids(e, 1)[0], b.firsts()
	nothing := make([]int, width(kid.Type))
	var held []int
	keep := func() { held = kid.value() }
	return part{kid.Type, func() []int {
		b.in.putOff(keep)
		if isFirst() {
			return nothing
		}
		return held
	}}
}

func (b *body) begun(e api.Exp) part {
	kids, isFirst := b.kids(e, 2), b.firsts()
	return part{kids[0].Type, func() []int {
		first, later := kids[0].value(), kids[1].value()
		if isFirst() {
			return first
		}
		return later
	}}
}

// followed asks its first kid each time: what that remembers moves.
func (b *body) followed(e api.Exp) part {
	kids, isFirst := b.kids(e, 2), b.firsts()
	var held []int
	keep := func() { held = kids[1].value() }
	return part{kids[0].Type, func() []int {
		b.in.putOff(keep)
		first := kids[0].value()
		if isFirst() {
			return first
		}
		return held
	}}
}

// ticked counts its activations round and round.
func (b *body) ticked(e api.Exp) part {
	offset := (e.M%e.N + e.N) % e.N
	isFirst, count := b.firsts(), 0
	return part{api.Type{Kind: api.Bool}, func() []int {
		if isFirst() {
			count = 0
		}
		is := count == offset
		count = (count + 1) % e.N
		return truth(is)
	}}
}

func truth(holds bool) []int {
	if holds {
		return []int{1}
	}
	return []int{0}
}
