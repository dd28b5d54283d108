package cause

import (
	"math/rand"
	"slices"
	"strconv"
	"testing"

	"metronome/api"
	"metronome/gram"
	"metronome/show"
)

// The oracle notes of each variable, by a name of its own, all that it hangs on at once, goes on until it knows what each hangs on by way of others, and takes the first that hangs on itself. It may be told to leave out a rule: so it is seen whether the programs that it is asked of show that rule.
type oracle struct {
	without string
	vars    []told // those of the node, then those of states
	on      map[string]map[string]bool
	reached map[string]map[string]bool
}

// told is a variable: whole is its name with those of the states around.
type told struct {
	whole, name, sort string
	at                int
}

func (o *oracle) reads(e api.Exp) (list []string) {
	kids := e.Kids
	switch e.Form {
	case api.EMerge:
		if o.without != "merge" {
			list = append(list, e.Name)
		}
	case api.EVar, api.EWhen:
		list = append(list, e.Name)
	case api.EPre:
		if o.without != "pre" {
			kids = nil
		}
	case api.EFby:
		if o.without != "fby" {
			kids = kids[:1]
		}
	}
	for _, kid := range kids {
		list = append(list, o.reads(kid)...)
	}
	return list
}

// find is the whole name of a variable, "" of an input.
func find(scope []told, name string) string {
	for _, v := range scope {
		if v.name == name {
			return v.whole
		}
	}
	return ""
}

func (o *oracle) hang(whole string, scope []told, names []string) {
	for _, name := range names {
		if on := find(scope, name); on != "" && whole != "" {
			o.on[whole][on] = true
		}
	}
}

// declare lets variables be there in a scope; sort says what they are.
func (o *oracle) declare(scope []told, vars []api.Var, prefix, sort string) []told {
	scope = slices.Clone(scope)
	for _, v := range vars {
		one := told{prefix + v.Name, v.Name, sort, v.At}
		if o.without == "scope" {
			one.whole = v.Name
		}
		if o.on[one.whole] == nil {
			o.on[one.whole] = map[string]bool{}
		}
		o.vars = append(o.vars, one)
		scope = append(scope, one)
	}
	for _, v := range vars {
		for _, edge := range v.Clock {
			if o.without != "clock" && sort != "output" {
				o.hang(find(scope, v.Name), scope, []string{edge.Name})
			}
		}
	}
	return scope
}

// condition is what one around is hung on: its names in its scope.
type condition struct {
	scope []told
	names []string
}

func (o *oracle) items(list []api.Item, scope []told, around []condition, prefix, sort string) {
	for n, i := range list {
		if len(i.States) > 0 {
			o.automaton(i, scope, around, prefix+strconv.Itoa(n)+".", sort)
			continue
		}
		for k, name := range i.Names {
			if k > 0 && o.without == "several" {
				break
			}
			whole := find(scope, name)
			o.hang(whole, scope, o.reads(i.E))
			for _, c := range around {
				o.hang(whole, c.scope, c.names)
			}
		}
	}
}

func (o *oracle) automaton(i api.Item, scope []told, around []condition, prefix, sort string) {
	own := condition{scope: scope}
	for _, s := range i.States {
		for _, t := range s.Unless {
			own.names = append(own.names, o.reads(t.Cond)...)
		}
		for _, t := range s.Until {
			if o.without == "until" {
				own.names = append(own.names, o.reads(t.Cond)...)
			}
		}
	}
	switch o.without {
	case "unless":
	case "around":
		around = []condition{own}
	default:
		around = append(slices.Clone(around), own)
	}
	for n, s := range i.States {
		inner := prefix + strconv.Itoa(n) + "."
		all := o.declare(scope, s.Locals, inner, "local of a "+sort)
		if n == 0 || o.without != "states" {
			o.items(s.Items, all, around, inner, "state in a "+sort)
		}
	}
}

// close goes on until nothing more is reached.
func (o *oracle) close() {
	o.reached = map[string]map[string]bool{}
	for v, on := range o.on {
		o.reached[v] = map[string]bool{}
		for w := range on {
			o.reached[v][w] = true
		}
	}
	for way := range o.on {
		for v := range o.on {
			if o.reached[v][way] {
				for w := range o.reached[way] {
					o.reached[v][w] = true
				}
			}
		}
	}
}

func oracleNode(n api.Node, without string) *oracle {
	o := &oracle{without: without, on: map[string]map[string]bool{}}
	scope := o.declare(nil, n.Outs, "", "output")
	scope = o.declare(scope, n.Locals, "", "local")
	o.items(n.Items, scope, nil, "", "state")
	o.close()
	return o
}

func (o *oracle) wrong(v told) bool {
	if o.without == "itself" {
		for w := range o.reached[v.whole] {
			if o.reached[w][w] {
				return true
			}
		}
	}
	return o.reached[v.whole][v.whole]
}

func oracleCheck(p api.Program, without string) told {
	for _, n := range p.Nodes {
		o := oracleNode(n, without)
		if without == "order" {
			slices.Reverse(o.vars)
		}
		for _, v := range o.vars {
			if o.wrong(v) {
				return v
			}
		}
	}
	return told{}
}

// oracleOrder looks through all variables for each place.
func oracleOrder(n api.Node, without string) (list []string, ok bool) {
	o := oracleNode(n, without)
	for range o.vars {
		for _, v := range o.vars {
			ready := !slices.Contains(list, v.name)
			for on := range o.on[v.whole] {
				ready = ready && slices.Contains(list, on)
			}
			if ready {
				list = append(list, v.name)
				break
			}
		}
	}
	if len(list) < len(o.vars) {
		return nil, false
	}
	return list, true
}

func made(t *testing.T, m *maker) (api.Program, string) {
	t.Helper()
	text := show.Print(m.program())
	p, at, e := gram.Parse(text)
	if e != api.OK {
		t.Fatalf("%s\nerror %d at %d", text, e, at)
	}
	if at, e := checkedAhead(p); e != api.OK {
		t.Fatalf("%s\nahead: error %d at %d", text, e, at)
	}
	return p, text
}

// agrees holds Check against the oracle, and answers what that tells.
func agrees(t *testing.T, p api.Program, text string) told {
	t.Helper()
	want, what := oracleCheck(p, ""), api.OK
	if want.name != "" {
		what = api.ErrCycle
	}
	if at, e := Check(p); at != want.at || e != what {
		t.Fatalf("%s\nerror %d at %d, not %d at %d (%s)", text, e, at, what, want.at, want.whole)
	}
	return want
}

// TestP1001Oracle holds Check against the oracle, of made programs, and of each of their nodes alone, until each sort of variable was told, and each rule has shown.
func TestP1001Oracle(t *testing.T) {
	sorts, shown := map[string]int{}, map[string]int{}
	rules := []string{"merge", "pre", "fby", "clock", "unless", "around", "until", "several", "scope", "states", "itself", "order"}
	for seed := range 6000 {
		m := &maker{r: rand.New(rand.NewSource(int64(seed))), odd: []int{0, 50, 100, 300}[seed%4], deep: 2}
		p, text := made(t, m)
		if v := agrees(t, p, text); m.odd == 0 && v.name != "" {
			t.Fatalf("%s\nwrong at %d (%s)", text, v.at, v.whole)
		}
		for _, n := range p.Nodes[m.given:] {
			alone := api.Program{Nodes: []api.Node{n}}
			v := agrees(t, alone, text)
			sorts[v.sort]++
			for _, rule := range rules {
				if oracleCheck(alone, rule).at != v.at {
					shown[rule]++
				}
			}
		}
	}
	for _, sort := range []string{"", "output", "local", "local of a state", "local of a state in a state"} {
		if sorts[sort] < 50 {
			t.Errorf("%q: %d nodes", sort, sorts[sort])
		}
	}
	for _, rule := range rules {
		if shown[rule] < 3 {
			t.Errorf("without %q: %d nodes", rule, shown[rule])
		}
	}
}

// TestP1002Oracle holds Order against the oracle; it answers one where Check finds nothing.
func TestP1002Oracle(t *testing.T) {
	count, shown := map[bool]int{}, map[string]int{}
	rules := []string{"merge", "pre", "fby", "clock", "several"}
	for seed := range 6000 {
		m := &maker{r: rand.New(rand.NewSource(int64(seed))), odd: []int{0, 0, 200, 500}[seed%4], deep: seed % 5 / 4}
		p, text := made(t, m)
		for _, n := range p.Nodes[m.given:] {
			got, ok := Order(p, n)
			if slices.ContainsFunc(n.Items, func(i api.Item) bool { return len(i.States) > 0 }) {
				if ok || got != nil {
					t.Fatalf("%s\n%s: %q, %v", text, n.Name, got, ok)
				}
				continue
			}
			want, can := oracleOrder(n, "")
			if ok != can || !slices.Equal(got, want) {
				t.Fatalf("%s\n%s: %q, %v; not %q, %v", text, n.Name, got, ok, want, can)
			}
			if _, e := Check(api.Program{Nodes: []api.Node{n}}); ok != (e == api.OK) {
				t.Fatalf("%s\n%s: %v, but error %d", text, n.Name, ok, e)
			}
			count[ok]++
			for _, rule := range rules {
				if other, _ := oracleOrder(n, rule); ok && !slices.Equal(other, want) {
					shown[rule]++
				}
			}
		}
	}
	if count[true] < 1000 || count[false] < 500 {
		t.Error(count)
	}
	for _, rule := range rules {
		if shown[rule] < 20 {
			t.Errorf("without %q: %d orders", rule, shown[rule])
		}
	}
}
