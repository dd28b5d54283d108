package opt

import (
	"metronome/api"
)

// What an expression that is handed in is at most: one of more parts than these
// has more than 2^31 bytes.
const (
	maxParts  = 1 << 25
	maxNested = 1 << 16
)

// meter counts down the parts that may still come. What is too deep uses all of
// it up, so that an expression within itself is not gone over again and again.
type meter struct {
	left, deepest int
}

// parts tells whether all parts of an expression may come.
func (m *meter) parts(e api.CExp, deep int) bool {
	if m.left == 0 || deep > m.deepest {
		m.left = 0
		return false
	}
	m.left--
	for _, kid := range e.Kids {
		if !m.parts(kid, deep+1) {
			return false
		}
	}
	return true
}
