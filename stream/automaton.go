package stream

import (
	"slices"

	"metronome/api"
)

// automaton is an automaton of a body: which state it is in, and whether that
// one's memories are to be new.
type automaton struct {
	home   *body
	states []*state
	isNew  func() bool
	now    int
	mark   bool
	tick   int // of the activation for which a state was chosen
	chosen *state
}

type state struct {
	body
	unless, until []transition
}

type transition struct {
	cond func() []int
	to   int
	cont bool
}

func (b *body) automaton(list []api.State) {
	a := &automaton{home: b, isNew: b.firsts()}
	for _, s := range list {
		a.states = append(a.states, b.state(s, list))
	}
	for name := range a.states[0].defines {
		b.define(name, func() []int { return a.active().defines[name]() })
	}
	b.automata = append(b.automata, a)
}

// state is made with its locals there, but for the unless conditions, which
// don't see them. They stay when it is left: nobody else asks for them, and
// those of other states may take their places.
func (b *body) state(s api.State, among []api.State) *state {
	made := &state{body: newBody(b.in, &b.life), unless: b.transitions(s.Unless, among)}
	made.declareLocals(s.Locals)
	made.items(s.Items)
	made.until = made.transitions(s.Until, among)
	return made
}

func (b *body) transitions(list []api.Trans, among []api.State) []transition {
	var all []transition
	for _, t := range list {
		to := slices.IndexFunc(among, func(s api.State) bool { return s.Name == t.To })
		must(to >= 0)
		all = append(all, transition{b.part(t.Cond).value, to, t.Cont})
	}
	return all
}

// active answers the state of this activation, which is chosen when it is asked
// for first: what the conditions read may have to be worked out.
func (a *automaton) active() *state {
	if a.tick != a.home.in.tick {
		a.tick = a.home.in.tick
		if a.isNew() {
			a.now, a.mark = 0, false
		}
		a.move(a.states[a.now].unless)
		a.chosen = a.states[a.now]
		a.chosen.begin(a.mark)
		a.mark = false
	}
	return a.chosen
}

func (a *automaton) move(list []transition) {
	for _, t := range list {
		if isTrue(t.cond()) {
			a.now, a.mark = t.to, !t.cont
			return
		}
	}
}

func (a *automaton) end() {
	a.chosen.end()
	a.move(a.chosen.until)
}
