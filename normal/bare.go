package normal

import (
	"metronome/api"
)

// bare answers a copy of an equation that has nothing but what its form has.
// Init, Period and Offset go on with all that have no expression.
func bare(q api.CEq) api.CEq {
	made := api.CEq{Form: q.Form, Name: q.Name}
	if q.Form == api.CDef {
		made.E = bareExp(q.E)
		return made
	}
	made.Init, made.Period, made.Offset = q.Init, q.Period, q.Offset
	if q.Form == api.CMem {
		made.Next, made.Reset = q.Next, q.Reset
	}
	return made
}

func bareExp(e api.CExp) api.CExp {
	made := api.CExp{Form: e.Form}
	switch e.Form {
	case api.ELit:
		made.Kind, made.N = e.Kind, e.N
	case api.EUn, api.EBin:
		made.Sub = e.Sub
	case api.ECast:
		made.Kind = e.Kind
	case api.EWhen:
		made.Name, made.N = e.Name, e.N
	case api.EVar, api.EMerge:
		made.Name = e.Name
	}
	for _, kid := range e.Kids {
		made.Kids = append(made.Kids, bareExp(kid))
	}
	return made
}
