package drat_test

import (
	"slices"

	"metronome/api"
)

// set is a clause's literals.
type set map[int]bool

func setOf(literals []int) set {
	s := set{}
	for _, literal := range literals {
		s[literal] = true
	}
	return s
}

func same(a, b set) bool {
	if len(a) != len(b) {
		return false
	}
	for literal := range a {
		if !b[literal] {
			return false
		}
	}
	return true
}

// follows is the chapter's word, step by step: no clause is watched, nothing is kept.
func follows(list []set, clause set) bool {
	holds := set{}
	for literal := range clause {
		if clause[-literal] {
			return true
		}
		holds[-literal] = true
	}
	for changed := true; changed; {
		changed = false
		for _, c := range list {
			var open []int
			for literal := range c {
				if !holds[-literal] {
					open = append(open, literal)
				}
			}
			if len(open) == 0 {
				return true
			}
			if len(open) == 1 && !holds[open[0]] {
				holds[open[0]], changed = true, true
			}
		}
	}
	return false
}

func followsByFirst(list []set, literals []int) bool {
	if len(literals) == 0 {
		return false
	}
	for _, c := range list {
		if !c[-literals[0]] {
			continue
		}
		more := setOf(literals)
		for literal := range c {
			if literal != -literals[0] {
				more[literal] = true
			}
		}
		if !follows(list, more) {
			return false
		}
	}
	return true
}

// judge goes over lines.
type judge struct {
	vars, size int
	list       []set
	empty      bool
}

func judgeOf(f api.Formula) *judge {
	j := &judge{vars: f.Vars}
	for _, clause := range f.Clauses {
		j.list = append(j.list, setOf(clause))
	}
	return j
}

func (j *judge) take(line api.Line) api.Errno {
	if j.size += len(line.Clause) + 1; j.size > api.MaxLits {
		return api.ErrLong
	}
	if slices.ContainsFunc(line.Clause, func(literal int) bool { return literal == 0 || literal > j.vars || literal < -j.vars }) {
		return api.ErrForm
	}
	s := setOf(line.Clause)
	if line.Gone {
		if at := slices.IndexFunc(j.list, func(c set) bool { return same(c, s) }); at >= 0 {
			j.list = slices.Delete(j.list, at, at+1)
		}
		return api.OK
	}
	if !follows(j.list, s) && !followsByFirst(j.list, line.Clause) {
		return api.ErrProof
	}
	j.list = append(j.list, s)
	j.empty = len(s) == 0
	return api.OK
}

// check is what Check must answer of a formula that cnf.Check takes.
func check(f api.Formula, proof []api.Line) (int, api.Errno) {
	j := judgeOf(f)
	for at, line := range proof {
		if e := j.take(line); e != api.OK {
			return at, e
		}
		if j.empty {
			return -1, api.OK
		}
	}
	for _, clause := range f.Clauses {
		if len(clause) == 0 {
			return -1, api.OK
		}
	}
	return len(proof), api.ErrProof
}

// hasModel tries all models.
func hasModel(f api.Formula) bool {
models:
	for bits := range 1 << f.Vars {
		for _, clause := range f.Clauses {
			if !slices.ContainsFunc(clause, func(literal int) bool {
				return bits>>(max(literal, -literal)-1)&1 == 1 == (literal > 0)
			}) {
				continue models
			}
		}
		return true
	}
	return false
}
