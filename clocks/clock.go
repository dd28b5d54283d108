package clocks

import (
	"slices"

	"metronome/api"
)

// clock is a list of edges from the base on, unless it is free: then it goes
// with any other one.
type clock struct {
	free  bool
	edges []api.Edge
}

func anyClock() clock { return clock{free: true} }

func (c clock) isBase() bool { return !c.free && len(c.edges) == 0 }

// behind answers the clock of those activations at which a variable of this
// clock is as the edge says. The list is a new one: the edges of a clock are
// those of the program.
func (c clock) behind(edge api.Edge) clock {
	return clock{edges: slices.Concat(c.edges, []api.Edge{edge})}
}

// itself stands where the parts that are gone over are clocks.
func itself(c clock) clock { return c }

// common answers the clock of all parts, and whether they go together. It is
// free, if all theirs are.
func common[P any](parts []P, clockOf func(P) clock) (clock, bool) {
	shared, differ := anyClock(), false
look:
	for _, p := range parts {
		c := clockOf(p)
		switch {
		case c.free:
		case shared.free:
			shared = c
		case !slices.Equal(c.edges, shared.edges):
			differ = true
			break look
		}
	}
	return shared, !differ
}

// together tells whether clocks go with each other.
func together(clocks ...clock) bool {
	_, ok := common(clocks, itself)
	return ok
}
