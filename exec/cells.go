package exec

import "slices"

// cells are the values that stay from tick to tick. Neither list is ever written
// into, so that a machine that was copied has nothing in common with the other.
type cells struct {
	init, now []int
}

func (c *cells) reset() { c.now = c.init }

func (c *cells) keep(values []int) { c.now = slices.Clone(values) }
