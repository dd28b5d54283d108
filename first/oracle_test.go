package first

import (
	"math/rand"
	"slices"
	"strconv"
	"testing"

	"metronome/api"
	"metronome/gram"
	"metronome/show"
)

// The oracle lists the parts of each expression, kids ahead of what they are kids of, asks each part anew, notes all that is wrong, in order, and takes the first.

// said is a fault, and by which rule it is one.
type said struct {
	at   int
	rule string
}

// lateBy are the kids by which a form becomes late; without a row all of them.
var lateBy = map[int][]int{api.ELit: {}, api.EVar: {}, api.ETick: {}, api.EArrow: {0}, api.EFby: {0}}

func (o *oracle) late(e api.Exp) bool {
	if e.Form == api.EPre {
		return true
	}
	by, some := lateBy[e.Form]
	for i, kid := range e.Kids {
		if (!some || slices.Contains(by, i)) && o.late(kid) {
			return true
		}
	}
	return false
}

// neverLate are the kids of a form that must not be late.
var neverLate = map[int][]int{api.EPre: {0}, api.EFby: {1}, api.EMerge: {0, 1}}

func mustNot(e api.Exp) []int {
	if slices.Contains([]int{api.ECall, api.EReset, api.EMap, api.EFold}, e.Form) {
		all := make([]int, len(e.Kids))
		for i := range all {
			all[i] = i
		}
		return all
	}
	return neverLate[e.Form]
}

type oracle struct{ wrong []said }

func partsOf(e api.Exp) (list []api.Exp) {
	for _, kid := range e.Kids {
		list = append(list, partsOf(kid)...)
	}
	return append(list, e)
}

func (o *oracle) exp(e api.Exp, rule string) {
	for _, part := range partsOf(e) {
		for _, i := range mustNot(part) {
			if o.late(part.Kids[i]) {
				o.wrong = append(o.wrong, said{part.Kids[i].At, "form " + strconv.Itoa(part.Form) + ", kid " + strconv.Itoa(i)})
			}
		}
	}
	if o.late(e) {
		o.wrong = append(o.wrong, said{e.At, rule})
	}
}

func (o *oracle) items(list []api.Item, rule string) {
	for _, i := range list {
		if i.States == nil {
			o.exp(i.E, rule)
		}
		for _, s := range i.States {
			for _, t := range s.Unless {
				o.exp(t.Cond, "unless")
			}
			o.items(s.Items, "equation of a state")
			for _, t := range s.Until {
				o.exp(t.Cond, "until")
			}
		}
	}
}

func oracleCheck(p api.Program) said {
	o := &oracle{}
	for _, n := range p.Nodes {
		o.items(n.Items, "equation")
	}
	return append(o.wrong, said{})[0]
}

// TestP902Oracle holds Check against the oracle, of made programs, until each rule was broken often enough.
func TestP902Oracle(t *testing.T) {
	count := map[string]int{}
	for seed := range 6000 {
		m := &maker{r: rand.New(rand.NewSource(int64(seed))), odd: []int{0, 50, 200, 500}[seed%4], loose: seed%3 == 0}
		text := show.Print(m.program())
		p, at, e := gram.Parse(text)
		if e != api.OK {
			t.Fatalf("%s\nerror %d at %d", text, e, at)
		}
		if at, e := checkedAhead(p); e != api.OK && !(m.loose && e == api.ErrCond) {
			t.Fatalf("%s\nahead: error %d at %d", text, e, at)
		}
		want, what := oracleCheck(p), api.OK
		if want.rule != "" {
			what = api.ErrFirst
		}
		if at, e := Check(p); at != want.at || e != what {
			t.Fatalf("%s\nerror %d at %d, not %d at %d (%s)", text, e, at, what, want.at, want.rule)
		}
		if m.odd == 0 && what != api.OK {
			t.Fatalf("%s\nwrong at %d (%s)", text, want.at, want.rule)
		}
		count[want.rule]++
	}
	for _, rule := range []string{"", "equation", "equation of a state", "unless", "until", "form 6, kid 0", "form 8, kid 1", "form 10, kid 0", "form 10, kid 1", "form 13, kid 0", "form 13, kid 1", "form 14, kid 0", "form 14, kid 1", "form 14, kid 2", "form 18, kid 0", "form 18, kid 1", "form 19, kid 0", "form 19, kid 1"} {
		if count[rule] < 3 {
			t.Errorf("%q: %d programs", rule, count[rule])
		}
	}
}
