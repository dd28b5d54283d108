package sat

// What a variable is for the lemma that is made.
const (
	fresh   = iota
	met     // its cause is known to be needed
	part    // a literal of it is one of the lemma's
	follows // it is what it is because of the lemma's literals
	alone   // it is not
)

// cut is what a lemma is made with.
type cut struct {
	roles  []byte // by variable
	roled  []int  // the variables that are not fresh
	stamp  int    // of the lemma that is made
	stamps []int  // by level, of the last lemma that had a literal of it
}

func newCut(vars int) cut { return cut{roles: make([]byte, vars+1), stamps: make([]int, vars+1)} }

func (c *cut) role(v int, role byte) {
	if c.roles[v] == fresh {
		c.roled = append(c.roled, v)
	}
	c.roles[v] = role
}

func (c *cut) end() {
	for _, v := range c.roled {
		c.roles[v] = fresh
	}
	c.roled = c.roled[:0]
}

// newLemma answers the next lemma, still without literals.
func (s *solver) newLemma() *lemma {
	l := &lemma{number: s.last.number + 1}
	l.of = l
	return l
}

// learnAll learns that the literals that were tried don't go together. As no
// lemma but the first two of one level hangs on the order, a search that learns
// so goes through all values at most once. Which lemmas it needs is not looked
// at: all so far.
func (s *solver) learnAll(*clause) {
	l := s.newLemma()
	for depth := s.depth(); depth > 0; depth-- {
		l.literals = append(l.literals, -s.made[s.begins[depth-1]])
	}
	l.leanOn(&s.last.clause)
	s.put(l)
}

// learnCut learns what is left of the conflict's clause, when literals of the
// last level have been resolved, the latest first, till there is one: that one
// will be true.
func (s *solver) learnCut(clash *clause) {
	l := s.newLemma()
	l.literals = []int{0}
	count := s.resolve(l, clash)
	for at := len(s.made) - 1; ; at-- {
		v := variable(s.made[at])
		if s.roles[v] != met {
			continue
		}
		if count--; count == 0 {
			l.literals[0] = -s.made[at]
			s.role(v, part)
			break
		}
		count += s.resolve(l, s.cause[v])
	}
	s.shorten(l)
	s.cut.end()
	s.put(l)
}

// resolve puts the literals of a clause to the lemma, but those of the last
// level, and answers how many of these are new.
func (s *solver) resolve(l *lemma, c *clause) (count int) {
	l.leanOn(c)
	for _, literal := range c.literals {
		v := variable(literal)
		if s.roles[v] != fresh {
			continue
		}
		switch level := s.level[v]; level {
		case 0:
			s.role(v, met)
			l.roots = append(l.roots, v)
			continue
		case s.depth():
			s.role(v, met)
			count++
		default:
			s.role(v, part)
			l.literals = append(l.literals, literal)
		}
		s.count(v)
	}
	return count
}

// leanOn tells that the lemma follows from a clause.
func (l *lemma) leanOn(c *clause) {
	if c.of != nil {
		l.from = append(l.from, c.of)
	}
}

// shorten takes the literals away that are false because of others.
func (s *solver) shorten(l *lemma) {
	s.stamp++
	for _, literal := range l.literals {
		if level := s.levelOf(literal); s.stamps[level] != s.stamp {
			s.stamps[level] = s.stamp
			l.levels++
		}
	}
	gone := []int{}
	l.literals = kept(l.literals, func(literal int) bool {
		if literal == l.literals[0] || !s.isForced(variable(literal)) {
			return true
		}
		gone = append(gone, variable(literal))
		return false
	})
	for _, v := range gone {
		s.roles[v] = follows
	}
	for _, v := range gone {
		s.explain(l, v)
	}
}

// isForced tells whether a variable is what it is because of the lemma's
// literals and of what is at the root.
func (s *solver) isForced(v int) bool {
	if s.cause[v] == nil {
		return false
	}
	for _, literal := range s.cause[v].literals {
		if w := variable(literal); w != v && !s.isCovered(w) {
			return false
		}
	}
	return true
}

func (s *solver) isCovered(v int) bool {
	switch {
	case s.level[v] == 0 || s.roles[v] == part || s.roles[v] == follows:
		return true
	case s.roles[v] == alone || s.stamps[s.level[v]] != s.stamp:
		return false
	}
	if s.isForced(v) {
		s.role(v, follows)
		return true
	}
	s.role(v, alone)
	return false
}

// explain tells what a variable is so because of, down to the lemma's literals.
func (s *solver) explain(l *lemma, v int) {
	if s.roles[v] == part || s.roles[v] == met {
		return
	}
	s.role(v, met)
	if s.level[v] == 0 {
		l.roots = append(l.roots, v)
		return
	}
	l.leanOn(s.cause[v])
	for _, literal := range s.cause[v].literals {
		s.explain(l, variable(literal))
	}
}

// put puts a lemma to the clauses, where its first literal alone is not false.
func (s *solver) put(l *lemma) {
	s.last = l
	depth := 0
	for k, literal := range l.literals[1:] {
		if level := s.levelOf(literal); level > depth {
			depth = level
			l.literals[1], l.literals[1+k] = literal, l.literals[1]
		}
	}
	s.back(depth)
	s.join(&l.clause)
	if len(l.literals) > 1 {
		s.assert(l.literals[0], &l.clause)
		s.lemmas = append(s.lemmas, l)
		s.size += sizeOf([]*lemma{l})
	}
	s.age()
}
