package sat

import (
	"cmp"
	"math"
	"slices"

	"metronome/api"
)

// Bounds of the search.
const (
	few       = 14   // variables, all of whose values are gone through, see learnAll
	pause     = 50   // conflicts till the search begins anew, times 1, 1, 2, ..
	firstMost = 2000 // lemmas, till some are taken away
	moreMost  = 300
	fine      = 2 // a lemma of as few levels is not taken away
)

// solver looks for a model: it tries literals, one a level, and learns a lemma
// of each conflict.
type solver struct {
	*trail
	*order
	cut
	lemmas []*lemma
	size   int           // of these, see sizeOf
	last   *lemma        // the newest one
	most   int           // how many may be kept
	learn  func(*clause) // puts a lemma of a conflict to the clauses
	round  int           // of going over what lemmas follow from
	rounds []int         // by variable, in which round its cause was met
}

func solverOf(f api.Formula) *solver {
	s := &solver{trail: newTrail(f.Vars), order: newOrder(f.Vars), last: &lemma{}, most: firstMost, rounds: make([]int, f.Vars+1)}
	s.cut = newCut(f.Vars)
	for _, literals := range f.Clauses {
		if set := setOf(literals); !hasBoth(set) {
			s.join(&clause{literals: set})
			for _, literal := range set {
				s.offer(variable(literal))
			}
		}
	}
	s.learn = s.learnCut
	if s.order.Len() <= few {
		s.learn, s.most = s.learnAll, math.MaxInt
	}
	return s
}

// setOf answers the literals, each once, in the order of their variables.
func setOf(literals []int) []int {
	set := slices.Clone(literals)
	slices.SortFunc(set, func(a, b int) int { return cmp.Or(cmp.Compare(variable(a), variable(b)), cmp.Compare(a, b)) })
	return slices.Compact(set)
}

// hasBoth tells whether a set has a literal and its opposite.
func hasBoth(set []int) bool {
	for i := 1; i < len(set); i++ {
		if set[i] == -set[i-1] {
			return true
		}
	}
	return false
}

// search answers what was found. Each conflict beyond the budget ends it, and so
// does too much that would have to be proved.
func (s *solver) search(budget int) int {
	met, runs := 0, 0
restart:
	s.back(0)
	runs++
	left := s.pause(runs)
	for {
		switch clash := s.propagate(); {
		case clash != nil && s.depth() == 0:
			return api.Unsat
		case clash != nil && met == budget:
			return api.Unknown
		case clash != nil:
			met, left = met+1, left-1
			s.learn(clash)
		case left <= 0:
			goto restart
		case len(s.lemmas) > s.most || s.size > mostKept:
			if !s.thin() {
				return api.Unknown
			}
		case !s.tryNext():
			return api.Sat
		}
	}
}

// back takes back the levels behind a depth.
func (s *solver) back(depth int) {
	for _, literal := range s.undo(depth) {
		s.offer(variable(literal))
	}
}

// tryNext tries what the next open variable was last. False, if none is open.
func (s *solver) tryNext() bool {
	for s.order.Len() > 0 {
		if v := s.next(); s.isOpen(v) {
			if s.was[v] {
				s.try(v)
			} else {
				s.try(-v)
			}
			return true
		}
	}
	return false
}

// pause is after how many conflicts the search begins anew: the bound times the
// run's number of 1, 1, 2, 1, 1, 2, 4, .. (each part comes twice, and then twice
// its last number).
func (s *solver) pause(run int) int {
	if s.most == math.MaxInt {
		return math.MaxInt
	}
	size := 1
	for size < run {
		size = 2*size + 1
	}
	for size != run {
		if size /= 2; run > size {
			run -= size
		}
	}
	return pause * (size + 1) / 2
}

func (s *solver) model() []bool {
	model := make([]bool, s.vars+1)
	for _, literal := range s.made {
		if literal > 0 {
			model[literal] = true
		}
	}
	return model
}
