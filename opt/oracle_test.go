package opt_test

import (
	"reflect"
	"slices"

	"metronome/api"
	"metronome/bv"
)

// gone are the things that are to be gone of step code.
func gone() []string {
	return []string{"operation", "choice", "decided", "empty", "cell", "twins", "set"}
}

// every is all statements of a list, those within others, too.
func every(list []api.Stmt) []api.Stmt {
	all := slices.Clone(list)
	for i := 0; i < len(all); i++ {
		if all[i].Form == api.SIf {
			all = append(append(all, all[i].Then...), all[i].Else...)
		}
	}
	return all
}

// inner are all parts of an expression, itself the first.
func inner(e api.CExp) []api.CExp {
	list := []api.CExp{e}
	for i := 0; i < len(list); i++ {
		list = append(list, list[i].Kids...)
	}
	return list
}

func isLit(e api.CExp) bool { return e.Form == api.ELit }

func isNamed(list []api.CExp, name string) bool {
	return slices.ContainsFunc(list, func(e api.CExp) bool { return e.Form == api.EVar && e.Name == name })
}

// dirt counts what is to be gone of step code that is right.
func dirt(s api.Step) map[string]int {
	found := map[string]int{}
	all := every(s.Body)
	var parts []api.CExp
	for _, one := range all {
		parts = append(parts, inner(one.E)...)
	}
	read := map[string]bool{}
	for _, e := range parts {
		if e.Form == api.EVar {
			read[e.Name] = true
		}
		if slices.Contains([]int{api.EUn, api.EBin, api.ECast}, e.Form) && !slices.ContainsFunc(e.Kids, func(e api.CExp) bool { return !isLit(e) }) {
			found["operation"]++
		}
		if e.Form == api.EIf && isLit(e.Kids[0]) {
			found["choice"]++
		}
	}
	for _, c := range s.Cells {
		if !read[c.Name] {
			found["cell"]++
		}
	}
	twins(found, s.Body)
	for _, one := range all {
		switch {
		case one.Form == api.SIf:
			twins(found, one.Then)
			twins(found, one.Else)
			if isLit(one.E) {
				found["decided"]++
			}
			if len(one.Then)+len(one.Else) == 0 {
				found["empty"]++
			}
		case one.Form == api.SSet && !read[one.Name] && !slices.ContainsFunc(s.Outs, func(v api.CVar) bool { return v.Name == one.Name }):
			found["set"]++
		}
	}
	return found
}

// twins counts the pairs of a list that should be one.
func twins(found map[string]int, list []api.Stmt) {
	for i, b := range list {
		if i == 0 || b.Form != api.SIf || list[i-1].Form != api.SIf {
			continue
		}
		a := list[i-1]
		changed := slices.ContainsFunc(append(every(a.Then), every(a.Else)...), func(s api.Stmt) bool { return s.Form != api.SIf && isNamed(inner(a.E), s.Name) })
		if !changed && reflect.DeepEqual(whole(reflect.ValueOf(a.E), false).Interface(), whole(reflect.ValueOf(b.E), false).Interface()) {
			found["twins"]++
		}
	}
}

var kidCount = map[int]int{api.ELit: 0, api.EVar: 0, api.EUn: 1, api.EBin: 2, api.EIf: 3, api.ECast: 1, api.EWhen: 1, api.EMerge: 2}

// possible are the kinds that an expression may be of, if each name may be of any: none, if it is no expression.
func possible(e api.CExp) (list []int) {
	var kids [][]int
	for _, kid := range e.Kids {
		kids = append(kids, possible(kid))
	}
	if count, ok := kidCount[e.Form]; !ok || count != len(e.Kids) {
		return nil
	}
	for kind := api.Bool; kind <= api.U64; kind++ {
		if fits(e, kids, kind) {
			list = append(list, kind)
		}
	}
	return list
}

// fits tells whether an expression may be of a kind, by those that its kids may be of.
func fits(e api.CExp, kids [][]int, kind int) bool {
	kid := func(i, of int) bool { return slices.Contains(kids[i], of) }
	switch e.Form {
	case api.ELit:
		return e.Kind == kind && bv.Wrap(kind, e.N) == e.N
	case api.EVar:
		return true
	case api.EUn:
		return kid(0, kind) && (e.Sub == api.OpNot || e.Sub == api.OpNeg && kind != api.Bool)
	case api.ECast:
		return e.Kind == kind && len(kids[0]) > 0
	case api.EIf:
		return kid(0, api.Bool) && kid(1, kind) && kid(2, kind)
	case api.EWhen:
		return kid(0, kind) && (e.N == 0 || e.N == 1)
	case api.EMerge:
		return kid(0, kind) && kid(1, kind)
	}
	for of := api.Bool; of <= api.U64; of++ {
		if _, to, ok := bv.Bin(e.Sub, of, 0, 0); ok && to == kind && kid(0, of) && kid(1, of) {
			return true
		}
	}
	return false
}

// stripped has nothing but what its form has.
func stripped(e api.CExp) api.CExp {
	if e.Form != api.EVar && e.Form != api.EWhen && e.Form != api.EMerge {
		e.Name = ""
	}
	if e.Form != api.EUn && e.Form != api.EBin {
		e.Sub = 0
	}
	if e.Form != api.ELit && e.Form != api.ECast {
		e.Kind = 0
	}
	if e.Form != api.ELit && e.Form != api.EWhen {
		e.N = 0
	}
	return e
}

// folded is what Fold is to answer. It is told what to leave out, so that it shows whether that can be seen.
func folded(e api.CExp, leave string) api.CExp {
	made := e
	made.Kids = nil
	for _, kid := range e.Kids {
		made.Kids = append(made.Kids, folded(kid, leave))
	}
	if leave != "kinds" && len(possible(made)) == 0 || leave == "kinds" && len(made.Kids) != kidCount[made.Form] {
		return made
	}
	lits := !slices.ContainsFunc(made.Kids, func(e api.CExp) bool { return !isLit(e) })
	switch {
	case e.Form == api.EIf && isLit(made.Kids[0]) && leave != "choice":
		return made.Kids[1+(1-made.Kids[0].N&1)]
	case e.Form == api.EUn && lits && leave != "unary":
		n, _ := bv.Un(e.Sub, made.Kids[0].Kind, made.Kids[0].N)
		return lit(made.Kids[0].Kind, n)
	case e.Form == api.EBin && lits && leave != "binary":
		n, kind, _ := bv.Bin(e.Sub, made.Kids[0].Kind, made.Kids[0].N, made.Kids[1].N)
		return lit(kind, n)
	case e.Form == api.ECast && lits && leave != "cast":
		n, _ := bv.Cast(made.Kids[0].Kind, e.Kind, made.Kids[0].N)
		return lit(e.Kind, n)
	}
	return stripped(made)
}
