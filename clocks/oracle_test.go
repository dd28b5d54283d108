package clocks

import (
	"math/rand"
	"slices"
	"strconv"
	"testing"

	"metronome/api"
	"metronome/gram"
	"metronome/names"
	"metronome/show"
	asked "metronome/types"
)

// The oracle goes over a whole program, notes all that is wrong in it, in order, and takes the first; a clock is a text to it: of each edge a sign and a name; "any", if it goes with each.

// said is a fault, and by which rule it is one.
type said struct {
	at   int
	rule string
}

type oracle struct {
	wrong []said
	outer []api.Var // from outside of the state around; none: there is no state
	own   []api.Var // of the node, or of the state around
	deep  int
}

func (o *oracle) first() said { return append(o.wrong, said{})[0] }

func (o *oracle) say(is bool, at int, rule string) {
	if is {
		o.wrong = append(o.wrong, said{at, rule})
	}
}

func oracleCheck(p api.Program) said {
	o := &oracle{}
	for _, n := range p.Nodes {
		o.own = slices.Concat(n.Ins, n.Outs, n.Locals)
		o.locals(n.Locals, "node local")
		o.items(n.Items)
	}
	return o.first()
}

func text(edges []api.Edge) (s string) {
	for _, e := range edges {
		s += map[bool]string{true: "+", false: "-"}[e.On] + e.Name
	}
	return s
}

func (o *oracle) clock(name string) string {
	for _, v := range slices.Concat(o.own, o.outer) {
		if v.Name == name {
			return text(v.Clock)
		}
	}
	return "none"
}

// outside are those of names that are from outside of the state, and not on the base.
func (o *oracle) outside(all []string) (n int) {
	for _, name := range all {
		for _, v := range o.outer {
			if v.Name == name && len(v.Clock) > 0 {
				n++
			}
		}
	}
	return n
}

func (o *oracle) locals(vars []api.Var, rule string) {
	for _, v := range vars {
		for i, e := range v.Clock {
			o.say(o.clock(e.Name) != text(v.Clock[:i]), v.At, rule)
			o.say(o.outside([]string{e.Name}) > 0, v.At, rule+" from outside")
		}
	}
}

func (o *oracle) items(items []api.Item) {
	for _, i := range items {
		for _, s := range i.States {
			o.state(s)
		}
		if len(i.States) > 0 {
			continue
		}
		o.say(o.outside(names.Uses(i.E)) > 0, i.At, "equation uses")
		c := o.exp(i.E)
		for _, name := range i.Names {
			o.say(c != "any" && o.clock(name) != c, i.At, "equation")
			o.say(c == "any" && o.clock(name) != o.clock(i.Names[0]), i.At, "several names")
		}
		o.say(o.outside(i.Names) > 0, i.At, "equation defines")
	}
}

func (o *oracle) state(s api.State) {
	outer, own := o.outer, o.own
	o.outer, o.own = slices.Concat(outer, own), s.Locals
	o.locals(s.Locals, "state local")
	o.conditions(s.Unless, "unless")
	o.items(s.Items)
	o.conditions(s.Until, "until")
	o.outer, o.own = outer, own
}

func (o *oracle) conditions(list []api.Trans, rule string) {
	for _, t := range list {
		o.say(o.outside(names.Uses(t.Cond)) > 0, t.At, rule+" uses")
		c := o.exp(t.Cond)
		o.say(c != "any" && c != "", t.At, rule)
	}
}

func (o *oracle) exp(e api.Exp) string {
	var kids []string
	for _, k := range e.Kids {
		if c := o.exp(k); c != "any" {
			kids = append(kids, c)
		} else if e.Form == api.EMerge {
			kids = append(kids, o.clock(e.Name)+[]string{"+", "-"}[len(kids)]+e.Name)
		}
	}
	rule := "form " + strconv.Itoa(e.Form)
	switch c := o.clock(e.Name); e.Form {
	case api.EVar:
		return c
	case api.EWhen:
		o.say(len(kids) > 0 && kids[0] != c, e.At, rule)
		return c + []string{"-", "+"}[e.N] + e.Name
	case api.EMerge:
		o.say(kids[0] != c+"+"+e.Name || kids[1] != c+"-"+e.Name, e.At, rule)
		return c
	}
	if len(kids) == 0 {
		return "any"
	}
	for _, k := range kids {
		o.say(k != kids[0], e.At, rule)
	}
	return kids[0]
}

// TestP801Oracle holds Check against the oracle, of made programs, until each rule was broken often enough.
func TestP801Oracle(t *testing.T) {
	count := map[string]int{}
	for seed := range 6000 {
		m := &maker{r: rand.New(rand.NewSource(int64(seed))), odd: []int{0, 5, 20, 100}[seed%4]}
		text := show.Print(m.program())
		p, at, e := gram.Parse(text)
		if e != api.OK {
			t.Fatalf("%s\nerror %d at %d", text, e, at)
		}
		if at, e := names.Check(p); e != api.OK {
			t.Fatalf("%s\nnames: error %d at %d", text, e, at)
		}
		if at, e := asked.Check(p); e != api.OK {
			t.Fatalf("%s\ntypes: error %d at %d", text, e, at)
		}
		want, what := oracleCheck(p), api.OK
		if want.rule != "" {
			what = api.ErrClock
		}
		if at, e := Check(p); at != want.at || e != what {
			t.Fatalf("%s\nerror %d at %d, not %d at %d (%s)", text, e, at, what, want.at, want.rule)
		}
		if m.odd == 0 && what != api.OK {
			t.Fatalf("%s\nwrong at %d (%s)", text, want.at, want.rule)
		}
		count[want.rule]++
	}
	for _, rule := range rulesToBreak() {
		if count[rule] < 3 {
			t.Errorf("%q: %d programs", rule, count[rule])
		}
	}
}

func rulesToBreak() []string {
	all := []string{"", "node local", "state local", "state local from outside", "equation", "several names", "equation uses", "equation defines", "unless uses", "until uses", "until"}
	for _, form := range []int{api.EBin, api.EIf, api.EArrow, api.EFby, api.EWhen, api.EMerge, api.ECall, api.EReset, api.EArr, api.EMap, api.EFold} {
		all = append(all, "form "+strconv.Itoa(form))
	}
	return all
}
