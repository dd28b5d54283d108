package sat

import (
	"cmp"
	"slices"

	"metronome/api"
)

// Bounds of literals and lemmas.
const (
	mostNeeded = 2 * api.MaxLits  // for a proof; at the end fewer are needed, of which drat.Check takes MaxLits
	mostKept   = 20 * api.MaxLits // till lemmas are taken away, be they few
)

// thin takes half of the lemmas away: those of more levels, of as many the older
// ones. What one of them made true stays so. False, if what is needed for the
// others is too much.
func (s *solver) thin() bool {
	s.most += moreMost
	ordered := slices.Clone(s.lemmas)
	slices.SortFunc(ordered, func(a, b *lemma) int {
		return cmp.Or(cmp.Compare(a.levels, b.levels), cmp.Compare(b.number, a.number))
	})
	for _, l := range ordered[len(ordered)/2:] {
		l.gone = l.levels > fine
	}
	s.lemmas = kept(s.lemmas, (*lemma).isThere)
	s.size = sizeOf(s.lemmas)
	for at := range s.watching {
		s.watching[at] = kept(s.watching[at], watch.isThere)
	}
	return sizeOf(s.needed(s.lemmas, s.atRoot())) <= mostNeeded
}

func (l *lemma) isThere() bool { return !l.gone }

func (w watch) isThere() bool { return w.of == nil || !w.of.gone }

// proof answers the lemmas that the conflict at the root follows from, and the
// empty clause. False, if these are more than drat.Check takes.
func (s *solver) proof() ([]api.Line, bool) {
	end := &lemma{number: s.last.number + 1}
	end.leanOn(s.clash)
	for _, literal := range s.clash.literals {
		end.roots = append(end.roots, variable(literal))
	}
	end.of = end
	lemmas := s.needed([]*lemma{end}, nil)
	if sizeOf(lemmas) > api.MaxLits {
		return nil, false
	}
	slices.SortFunc(lemmas, func(a, b *lemma) int { return cmp.Compare(a.number, b.number) })
	proof := make([]api.Line, len(lemmas))
	for at, l := range lemmas {
		proof[at].Clause = l.literals
	}
	return proof, true
}

// need is lemmas, and variables at the root, that something follows from.
type need struct {
	*solver
	lemmas []*lemma
	roots  []int
}

// needed answers the lemmas, and all others that they and what is so at some
// variables at the root follow from.
func (s *solver) needed(lemmas []*lemma, roots []int) []*lemma {
	s.round++
	n := need{solver: s}
	n.meet(lemmas, roots)
	for lemma, root := 0, 0; lemma < len(n.lemmas) || root < len(n.roots); {
		if root < len(n.roots) {
			n.meetCause(n.cause[n.roots[root]])
			root++
			continue
		}
		n.meet(n.lemmas[lemma].from, n.lemmas[lemma].roots)
		lemma++
	}
	return n.lemmas
}

func (n *need) meet(lemmas []*lemma, roots []int) {
	for _, l := range lemmas {
		if l.round != n.round {
			l.round = n.round
			n.lemmas = append(n.lemmas, l)
		}
	}
	for _, v := range roots {
		if n.rounds[v] != n.round {
			n.rounds[v] = n.round
			n.roots = append(n.roots, v)
		}
	}
}

func (n *need) meetCause(c *clause) {
	if c.of != nil {
		n.meet([]*lemma{c.of}, nil)
	}
	for _, literal := range c.literals {
		n.meet(nil, []int{variable(literal)})
	}
}

// sizeOf is what lemmas count as lines of a proof.
func sizeOf(lemmas []*lemma) (size int) {
	for _, l := range lemmas {
		size += len(l.literals) + 1
	}
	return size
}
