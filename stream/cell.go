package stream

import (
	"metronome/api"
)

// cell holds a value of this activation. It is worked out when it is asked for,
// and once: so the order in which parts are asked does not matter, and no
// memory moves twice. Nobody writes to a value that was told.
type cell struct {
	in   *instance
	work func() []int
	tick int
	busy bool
	held []int
}

func (c *cell) value() []int {
	if c.tick != c.in.tick {
		must(!c.busy)
		c.busy = true
		c.tell(c.work())
		c.busy = false
	}
	return c.held
}

func (c *cell) tell(value []int) { c.tick, c.held = c.in.tick, value }

func isTrue(value []int) bool { return value[0] != 0 }

// part is a part that is evaluated: the type of its values, and what tells the
// value of this activation.
type part struct {
	api.Type
	value func() []int
}

// width is how many ints a value has.
func width(t api.Type) int {
	must(t.Len <= api.MaxSize)
	return max(1, t.Len)
}

// edge is an edge of a clock.
type edge struct {
	of *variable
	on bool
}

func (e edge) holds() bool { return e.of.there() && isTrue(e.of.value()) == e.on }

// variable is a variable of an instance; its home is the body in which it is
// declared.
type variable struct {
	cell
	api.Type
	home  *body
	clock []edge
	asked int
	is    bool
}

func (v *variable) there() bool {
	if v.asked != v.in.tick {
		v.asked, v.is = v.in.tick, true
		for _, e := range v.clock {
			if !e.holds() {
				v.is = false
				break
			}
		}
	}
	return v.is
}
