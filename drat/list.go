package drat

import (
	"slices"
	"strconv"

	"metronome/api"
)

// none is the place of no clause.
const none = -1

// clause is a set of literals, the first two of which watch it, and how often
// it is on the list.
type clause struct {
	literals []int
	count    int
}

// list is clauses, and the literals that they make true. Clauses of the same
// literals share a place; a clause that went has its place still, as what
// points at it is taken away only when it is passed.
type list struct {
	vars    int
	clauses []clause
	places  map[string]int // by its text, where a clause is
	sides   []side         // by literal, see at
	spread
	stuck bool // do the clauses lead to a conflict by themselves
}

// side is where a literal is found.
type side struct {
	alone    int   // the place of the clause that is this literal alone
	having   []int // the places of the clauses that have it
	watching []int // the places of the clauses that it watches
}

func listOf(f api.Formula) *list {
	l := &list{vars: f.Vars, places: map[string]int{}, sides: make([]side, 2*f.Vars+1)}
	for i := range l.sides {
		l.sides[i].alone = none
	}
	l.spread = newSpread(len(l.sides))
	for _, literals := range f.Clauses {
		l.put(literals)
	}
	return l
}

// at is a literal's place among all from -vars to vars.
func (l *list) at(literal int) int { return literal + l.vars }

func (l *list) side(literal int) *side { return &l.sides[l.at(literal)] }

// setOf answers the literals, each once, in an order that hangs on them alone.
func setOf(literals []int) []int {
	set := slices.Clone(literals)
	slices.Sort(set)
	return slices.Compact(set)
}

func textOf(set []int) string {
	var text []byte
	for _, literal := range set {
		text = append(strconv.AppendInt(text, int64(literal), 10), ' ')
	}
	return string(text)
}

// put puts a clause to the list, and propagates what it makes true.
func (l *list) put(literals []int) {
	set := setOf(literals)
	text := textOf(set)
	if place, found := l.places[text]; found {
		l.clauses[place].count++
		return
	}
	place := len(l.clauses)
	l.places[text] = place
	l.clauses = append(l.clauses, clause{literals: set, count: 1})
	for _, literal := range set {
		side := l.side(literal)
		side.having = append(side.having, place)
	}
	l.join(place)
	l.stuck = l.stuck || l.clash()
}

// drop takes a clause away, once, and what it alone made true.
func (l *list) drop(literals []int) {
	set := setOf(literals)
	text := textOf(set)
	place, found := l.places[text]
	if !found {
		return
	}
	if l.clauses[place].count--; l.clauses[place].count > 0 {
		return
	}
	delete(l.places, text)
	l.part(place)
	l.stuck = l.clash()
}

// clash propagates, and tells whether there is a conflict. (An empty clause is
// one that no literal watches.)
func (l *list) clash() bool {
	_, empty := l.places[""]
	return empty || !l.propagate()
}

// follows tells whether making the clause's literals false leads to a conflict.
// A literal and its opposite can't both be made so: that counts as one, too.
func (l *list) follows(literals []int) bool {
	if l.stuck {
		return true
	}
	defer l.undo(len(l.trail))
	return !l.deny(literals, 0)
}

// followsByFirst tells whether the clause, with the other literals of any
// clause that has the opposite of its first one, follows.
func (l *list) followsByFirst(literals []int) bool {
	if isEmpty(literals) {
		return false
	}
	defer l.undo(len(l.trail))
	l.deny(literals, 0)
	denied := len(l.trail)
	for _, place := range l.still(-literals[0]) {
		if l.deny(l.clauses[place].literals, -literals[0]) {
			return false
		}
		l.undo(denied)
	}
	return true
}

// still answers the places of the clauses that have a literal, without those
// that went.
func (l *list) still(literal int) []int {
	side := l.side(literal)
	side.having = slices.DeleteFunc(side.having, l.went)
	return side.having
}

func (l *list) went(place int) bool { return l.clauses[place].count == 0 }
