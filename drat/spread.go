package drat

import "slices"

// spread is what is true so far: the literals on the trail, in the order in
// which they were made so. Those ahead of head have been passed on: of a clause
// that such a literal's opposite watches the other one that watches is true.
type spread struct {
	trail []int
	head  int
	holds []bool // by literal, as the following two
	step  []int  // where on the trail it is
	cause []int  // the place of the clause that made it true
}

func newSpread(sides int) spread {
	return spread{holds: make([]bool, sides), step: make([]int, sides), cause: make([]int, sides)}
}

func (l *list) isTrue(literal int) bool { return l.holds[l.at(literal)] }

func (l *list) isFalse(literal int) bool { return l.holds[l.at(-literal)] }

// assert makes a literal true, if it is neither true nor false.
func (l *list) assert(literal, place int) {
	if l.isTrue(literal) || l.isFalse(literal) {
		return
	}
	at := l.at(literal)
	l.holds[at], l.step[at], l.cause[at] = true, len(l.trail), place
	l.trail = append(l.trail, literal)
}

// deny makes all literals false but one, and propagates. False, if that leads
// to a conflict.
func (l *list) deny(literals []int, but int) bool {
	for _, literal := range literals {
		if literal == but {
			continue
		}
		if l.isTrue(literal) {
			return false
		}
		l.assert(-literal, none)
	}
	return l.propagate()
}

// propagate passes on what is true till nothing changes. At a conflict, where
// it answers false, the literal that led to it is still to be passed on: asked
// again it meets the conflict again, if that is still one.
func (l *list) propagate() bool {
	for ; l.head < len(l.trail); l.head++ {
		if !l.pass(-l.trail[l.head]) {
			return false
		}
	}
	return true
}

// pass goes over the clauses that a literal watches that became false: another
// one must watch, or, if all others are false, the other one be true. False at
// a clause all of whose literals are false.
func (l *list) pass(lost int) bool {
	side := l.side(lost)
	if side.alone != none {
		return false
	}
	kept := side.watching[:0]
next:
	for i, place := range side.watching {
		if l.went(place) {
			continue
		}
		literals := l.clauses[place].literals
		if literals[0] == lost {
			literals[0], literals[1] = literals[1], lost
		}
		if l.isTrue(literals[0]) {
			kept = append(kept, place)
			continue
		}
		for k, literal := range literals[2:] {
			if !l.isFalse(literal) {
				literals[1], literals[2+k] = literal, lost
				l.watch(literal, place)
				continue next
			}
		}
		kept = append(kept, place)
		if l.isFalse(literals[0]) {
			side.watching = append(kept, side.watching[i+1:]...)
			return false
		}
		l.assert(literals[0], place)
	}
	side.watching = kept
	return true
}

func (l *list) watch(literal, place int) {
	side := l.side(literal)
	side.watching = append(side.watching, place)
}

// join lets a new clause be watched, and makes its literal true, if it is the
// only one that is not false.
func (l *list) join(place int) {
	literals := l.clauses[place].literals
	switch len(literals) {
	case 0:
		return
	case 1:
		l.side(literals[0]).alone = place
	default:
		l.lead(literals)
		l.watch(literals[0], place)
		l.watch(literals[1], place)
	}
	if len(literals) == 1 || l.isFalse(literals[1]) {
		l.assert(literals[0], place)
	}
	if l.isFalse(literals[0]) {
		l.back(literals[:min(2, len(literals))])
	}
}

// lead brings two literals to the front that are not false, as far as there are
// such.
func (l *list) lead(literals []int) {
	front := 0
	for k, literal := range literals {
		if front < 2 && !l.isFalse(literal) {
			literals[front], literals[k] = literal, literals[front]
			front++
		}
	}
}

// back lets the opposites of literals that are false be passed on again.
func (l *list) back(literals []int) {
	for _, literal := range literals {
		if l.isFalse(literal) {
			l.head = min(l.head, l.step[l.at(-literal)])
		}
	}
}

// part ends that a clause is watched, and takes back what was made true since
// it made its literal so.
func (l *list) part(place int) {
	literals := l.clauses[place].literals
	if len(literals) == 1 {
		l.side(literals[0]).alone = none
	}
	for _, literal := range literals {
		if l.isTrue(literal) && l.cause[l.at(literal)] == place {
			l.release(l.step[l.at(literal)])
			return
		}
	}
}

// release takes back what was made true from a step on, and sees to it that
// what other clauses make true of that will be so again.
func (l *list) release(from int) {
	freed := slices.Clone(l.trail[from:])
	l.undo(from)
	for _, literal := range freed {
		for _, side := range []int{literal, -literal} {
			if place := l.side(side).alone; place != none {
				l.assert(side, place)
			}
		}
		for _, place := range l.side(literal).watching {
			l.back(l.clauses[place].literals[:2])
		}
	}
}

// undo takes back what was made true from a step on.
func (l *list) undo(from int) {
	for _, literal := range l.trail[from:] {
		l.holds[l.at(literal)] = false
	}
	l.trail = l.trail[:from]
	l.head = min(l.head, from)
}
