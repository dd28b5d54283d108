package sat

// trail is what is true so far: the literals, in the order in which they were
// made so, level by level. The first level is the root, which hangs on the
// formula alone; each further one begins with a literal that was tried. Those
// ahead of head have been passed on.
type trail struct {
	vars     int
	made     []int
	head     int
	begins   []int     // where on the trail each level behind the root begins
	holds    []bool    // by literal, see at
	level    []int     // by variable, as the following two
	cause    []*clause // what made it so; nil, if it was tried
	was      []bool    // what it was last
	watching [][]watch // by literal
	lost     int       // the literal that is passed on as it became false
	clash    *clause   // the clause all of whose literals are false
	stays    func(watch) bool
}

func newTrail(vars int) *trail {
	t := &trail{
		vars:     vars,
		holds:    make([]bool, 2*vars+1),
		level:    make([]int, vars+1),
		cause:    make([]*clause, vars+1),
		was:      make([]bool, vars+1),
		watching: make([][]watch, 2*vars+1),
	}
	t.stays = t.isWatch
	return t
}

// at is a literal's place among all from -vars to vars.
func (t *trail) at(literal int) int { return literal + t.vars }

func (t *trail) isTrue(literal int) bool { return t.holds[literal+t.vars] }

func (t *trail) isFalse(literal int) bool { return t.holds[t.vars-literal] }

func (t *trail) isOpen(variable int) bool { return !t.isTrue(variable) && !t.isFalse(variable) }

// depth is how many literals were tried.
func (t *trail) depth() int { return len(t.begins) }

func (t *trail) levelOf(literal int) int { return t.level[variable(literal)] }

func variable(literal int) int { return max(literal, -literal) }

// assert makes a literal true that is open.
func (t *trail) assert(literal int, cause *clause) {
	v := variable(literal)
	t.holds[t.at(literal)], t.level[v], t.cause[v] = true, t.depth(), cause
	t.made = append(t.made, literal)
}

// try begins a level.
func (t *trail) try(literal int) {
	t.begins = append(t.begins, len(t.made))
	t.assert(literal, nil)
}

// join lets a clause be watched, and asserts what it says by itself. Of a clause
// of several literals neither of the first two is false, or what made them so is
// still to be passed on.
func (t *trail) join(c *clause) {
	switch literals := c.literals; {
	case len(literals) == 0 || len(literals) == 1 && t.isFalse(literals[0]):
		t.clash = c
	case len(literals) > 1:
		c.found = 1
		t.watch(literals[0], watch{c, literals[1]})
		t.watch(literals[1], watch{c, literals[0]})
	case !t.isTrue(literals[0]):
		t.assert(literals[0], c)
	}
}

func (t *trail) watch(literal int, w watch) {
	t.watching[t.at(literal)] = append(t.watching[t.at(literal)], w)
}

// propagate passes on what is true till nothing changes, or till a clause has
// nothing but false literals, which is answered.
func (t *trail) propagate() *clause {
	for t.clash == nil && t.head < len(t.made) {
		t.lost = -t.made[t.head]
		t.head++
		at := t.at(t.lost)
		t.watching[at] = kept(t.watching[at], t.stays)
	}
	return t.clash
}

// isWatch tells whether the literal that became false goes on watching a clause:
// not if another one can, that is not false. If there is none, the other one
// that watches must be true.
func (t *trail) isWatch(w watch) bool {
	if t.clash != nil || t.isTrue(w.other) {
		return true
	}
	literals := w.literals
	if literals[0] == t.lost {
		literals[0], literals[1] = literals[1], t.lost
	}
	first := literals[0]
	if t.isTrue(first) {
		return true
	}
	at := w.found
	for range literals[2:] {
		if at++; at == len(literals) {
			at = 2
		}
		if literal := literals[at]; !t.isFalse(literal) {
			literals[1], literals[at], w.found = literal, t.lost, at
			t.watch(literal, watch{w.clause, first})
			return false
		}
	}
	if t.isFalse(first) {
		t.clash = w.clause
	} else {
		t.assert(first, w.clause)
	}
	return true
}

// atRoot answers the variables that hang on the formula alone.
func (t *trail) atRoot() (variables []int) {
	for _, literal := range t.made {
		if t.levelOf(literal) > 0 {
			break
		}
		variables = append(variables, variable(literal))
	}
	return variables
}

// undo takes back the levels behind a depth, and answers what was true there.
func (t *trail) undo(depth int) []int {
	if depth >= t.depth() {
		return nil
	}
	from := t.begins[depth]
	for _, literal := range t.made[from:] {
		t.holds[t.at(literal)] = false
		t.was[variable(literal)] = literal > 0
	}
	freed := t.made[from:]
	t.made, t.begins, t.head, t.clash = t.made[:from], t.begins[:depth], from, nil
	return freed
}
