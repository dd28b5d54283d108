package flat

import (
	"slices"

	"metronome/api"
)

// automaton is an automaton of a body. A number stands for the state that it is
// in and the mark: twice the state's place, and 1, if the mark is set.
type automaton struct {
	*body
	list   []api.State
	live   []int // those states that can be come to, the first one ahead
	marked []int // by their places: how many transitions set the mark
	now    term  // behind unless
	states []*body
}

// code is the number of a state, and of the mark.
func code(place, mark int) term { return number(api.U8, 2*place+mark) }

func (b *body) automaton(list []api.State) {
	must(len(list) <= api.MaxStates)
	a := &automaton{body: b, list: list, marked: make([]int, len(list))}
	a.reach(0)
	if len(a.live) == 1 && len(list[0].Unless)+len(list[0].Until) == 0 {
		a.enter(0, b.at, b.life)
	} else {
		b.memory("state", b.life, code(0, 0), a.next)
	}
	for _, name := range a.states[0].names {
		b.give(name, a.chosen(name))
	}
}

func (a *automaton) reach(place int) {
	if slices.Contains(a.live, place) {
		return
	}
	a.live = append(a.live, place)
	s := a.list[place]
	for _, t := range slices.Concat(s.Unless, s.Until) {
		to := a.place(t)
		if !t.Cont {
			a.marked[to]++
		}
		a.reach(to)
	}
}

func (a *automaton) place(t api.Trans) int {
	to := slices.IndexFunc(a.list, func(s api.State) bool { return s.Name == t.To })
	must(to >= 0)
	return to
}

// enter makes the items of a state, those ahead of it being there.
func (a *automaton) enter(place int, at *moment, l *life) {
	s := a.list[place]
	made := a.maker.body(at, l, a.find)
	made.locals(s.Locals)
	made.items(s.Items)
	a.states = append(a.states, made)
}

// next makes all that the automaton does, and answers its number for the next
// tick; was is that of the tick ahead.
func (a *automaton) next(was term) term {
	a.now = a.hold(a.left(was))
	for _, place := range a.live {
		at, l := a.moment(func() term { return a.all(a.at.cond(), a.isIn(a.now, place)) }), a.life
		if a.marked[place] > 0 {
			isMarked := func() term { return a.binary(api.OpEq, a.now, code(place, 1)) }
			l = newLife(a.once(func() term { return a.any(a.anew(), a.all(a.at.cond(), isMarked())) }))
		}
		a.enter(place, at, l)
	}
	return a.choose(a.at.cond(), a.going(), was)
}

func (a *automaton) isIn(now term, place int) term {
	if len(a.live) == 1 {
		return yes()
	}
	return a.binary(api.OpEq, a.binary(api.OpShr, now, number(api.U8, 1)), number(api.U8, place))
}

// left answers the number behind the unless transitions.
func (a *automaton) left(was term) term {
	now := was
	for _, place := range slices.Backward(a.live) {
		if list := a.list[place].Unless; len(list) > 0 {
			now = a.choose(a.isIn(was, place), a.moved(a.body, list, was), now)
		}
	}
	return now
}

// going answers the number behind the until transitions. Where none is taken,
// the mark is taken away.
func (a *automaton) going() term {
	next := a.binary(api.OpAnd, a.now, number(api.U8, 254))
	for i, place := range slices.Backward(a.live) {
		if list := a.list[place].Until; len(list) > 0 {
			s := a.states[i]
			next = a.choose(s.at.cond(), a.moved(s, list, code(place, 0)), next)
		}
	}
	return next
}

// moved answers the number behind transitions, whose conditions are a body's.
func (a *automaton) moved(b *body, list []api.Trans, stays term) term {
	for _, t := range slices.Backward(list) {
		mark := 1
		if t.Cont {
			mark = 0
		}
		stays = a.choose(b.value(t.Cond, b.at), code(a.place(t), mark), stays)
	}
	return stays
}

// chosen answers what a variable is in the state that is active.
func (a *automaton) chosen(name string) []term {
	last := len(a.states) - 1
	value := a.states[last].given[name]
	for _, s := range slices.Backward(a.states[:last:last]) {
		value = each(s.given[name], value, func(t, o term) term { return a.choose(s.at.cond(), t, o) })
	}
	return value
}
