package clocks

import (
	"metronome/api"
)

// rule answers the clock of an expression of a form.
type rule func(e api.Exp) (clock, fault)

// allRules answers those of all forms; the first one is that of what is no
// form.
func (a *asker) allRules() []rule {
	return []rule{
		0:          a.alone,
		api.ELit:   a.alone,
		api.EVar:   a.named,
		api.EUn:    a.alike,
		api.EBin:   a.alike,
		api.EIf:    a.alike,
		api.EPre:   a.alike,
		api.EArrow: a.alike,
		api.EFby:   a.alike,
		api.EWhen:  a.sampled,
		api.EMerge: a.merged,
		api.ECast:  a.alike,
		api.ETick:  a.alone,
		api.ECall:  a.alike,
		api.EReset: a.alike,
		api.EArr:   a.alike,
		api.EIndex: a.alike,
		api.ERep:   a.alike,
		api.EMap:   a.alike,
		api.EFold:  a.alike,
	}
}

func (a *asker) of(e api.Exp) (clock, fault) {
	form := e.Form
	if form < 0 || form >= len(a.rules) {
		form = 0
	}
	return a.rules[form](e)
}

func (a *asker) kidsOf(e api.Exp) ([]clock, fault) {
	var kids []clock
	for _, kid := range e.Kids {
		c, f := a.of(kid)
		if f.found() {
			return nil, f
		}
		kids = append(kids, c)
	}
	return kids, fault{}
}

func (a *asker) alone(e api.Exp) (clock, fault) { return anyClock(), fault{} }

func (a *asker) named(e api.Exp) (clock, fault) { return a.clockOf(e.Name), fault{} }

func (a *asker) alike(e api.Exp) (clock, fault) {
	kids, f := a.kidsOf(e)
	if f.found() {
		return clock{}, f
	}
	c, ok := common(kids, itself)
	return c, unless(ok, e.At)
}

func (a *asker) sampled(e api.Exp) (clock, fault) {
	kids, f := a.kidsOf(e)
	if f.found() {
		return clock{}, f
	}
	c := a.clockOf(e.Name)
	ok := together(append(kids, c)...)
	return c.behind(api.Edge{Name: e.Name, On: e.N == 1}), unless(ok, e.At)
}

func (a *asker) merged(e api.Exp) (clock, fault) {
	kids, f := a.kidsOf(e)
	if f.found() {
		return clock{}, f
	}
	c, ok := a.clockOf(e.Name), true
	for i, kid := range kids {
		ok = ok && together(kid, c.behind(api.Edge{Name: e.Name, On: i == 0}))
	}
	return c, unless(ok, e.At)
}
