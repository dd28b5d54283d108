package types

import (
	"math"

	"metronome/api"
)

// many is no bound on the number of kids.
const many = math.MaxInt

// rule is that of a form: how many kids are looked at, and what answers the
// types of a part that has this form.
type rule struct {
	least, most int
	types       func(*part) []api.Type
}

// rules answers those of all forms; the first one is that of what is no form.
func rules() []rule {
	return []rule{
		0:          {0, 0, (*part).unknown},
		api.ELit:   {0, 0, (*part).literal},
		api.EVar:   {0, 0, (*part).variable},
		api.EUn:    {1, 1, (*part).unary},
		api.EBin:   {2, 2, (*part).binary},
		api.EIf:    {3, 3, (*part).choice},
		api.EPre:   {1, 1, (*part).alike},
		api.EArrow: {2, 2, (*part).alike},
		api.EFby:   {2, 2, (*part).alike},
		api.EWhen:  {1, 1, (*part).sampled},
		api.EMerge: {2, 2, (*part).sampled},
		api.ECast:  {1, 1, (*part).cast},
		api.ETick:  {0, 0, (*part).tick},
		api.ECall:  {0, many, (*part).call},
		api.EReset: {1, many, (*part).reset},
		api.EArr:   {1, many, (*part).array},
		api.EIndex: {1, 1, (*part).index},
		api.ERep:   {1, 1, (*part).rep},
		api.EMap:   {1, many, (*part).mapped},
		api.EFold:  {2, 2, (*part).folded},
	}
}

func (a *asker) ruleOf(form int) rule {
	if form < 0 || form >= len(a.rules) {
		form = 0
	}
	return a.rules[form]
}
