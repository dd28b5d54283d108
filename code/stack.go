package code

import "metronome/api"

// stack is the kinds of the values on the stack at an instruction, if that is
// reached. What is above them is 0, so that stacks can be compared as they are.
type stack struct {
	reached bool
	high    uint8
	kinds   [api.MaxStack]uint8
}

// put lays a value on top, for which there is room.
func (s *stack) put(kind int) {
	s.kinds[s.high] = uint8(kind)
	s.high++
}

// take takes the top away, if it is of the kind.
func (s *stack) take(kind int) bool {
	if s.high == 0 || int(s.kinds[s.high-1]) != kind {
		return false
	}
	s.high--
	s.kinds[s.high] = 0
	return true
}
