package flat_test

import (
	"math/rand"
	"slices"
	"testing"

	"metronome/api"
	"metronome/arrays"
	"metronome/cause"
	"metronome/clocks"
	"metronome/core"
	"metronome/first"
	"metronome/flat"
	"metronome/gram"
	"metronome/names"
	"metronome/show"
	"metronome/stream"
	asked "metronome/types"
)

// taken is the program of a text that all checks take.
func taken(t *testing.T, text string) api.Program {
	t.Helper()
	p, at, e := gram.Parse(text)
	if e != api.OK {
		t.Fatalf("%s\nerror %d at %d", text, e, at)
	}
	for _, check := range []func(api.Program) (int, api.Errno){names.Check, asked.Check, clocks.Check, first.Check, cause.Check} {
		if at, e := check(p); e != api.OK {
			t.Fatalf("%s\nerror %d at %d", text, e, at)
		}
	}
	return p
}

func same(a, b [][]int) bool { return slices.EqualFunc(a, b, slices.Equal[[]int]) }

func node(p api.Program, name string) api.Node {
	return p.Nodes[slices.IndexFunc(p.Nodes, func(n api.Node) bool { return n.Name == name })]
}

// kindsOf are those of variables, element by element.
func kindsOf(vars []api.Var) (kinds []int) {
	for _, v := range vars {
		kinds = append(kinds, slices.Repeat([]int{v.T.Kind}, max(1, v.T.Len))...)
	}
	return kinds
}

func flatKinds(vars []api.CVar) (kinds []int) {
	for _, v := range vars {
		kinds = append(kinds, v.Kind)
	}
	return kinds
}

// made is the flat program of a node, which must be one, with the node's inputs and outputs.
func made(t *testing.T, p api.Program, name string) api.Core {
	t.Helper()
	c, e := flat.Make(p, name)
	if e != api.OK {
		t.Fatalf("%s\n%s: error %d", show.Print(p), name, e)
	}
	if e := core.Check(c); e != api.OK {
		t.Fatalf("%s\n%s: %+v\nerror %d of core", show.Print(p), name, c, e)
	}
	n := node(p, name)
	if !slices.Equal(flatKinds(c.Ins), kindsOf(n.Ins)) || !slices.Equal(flatKinds(c.Outs), kindsOf(n.Outs)) {
		t.Fatalf("%s\n%s: %+v, %+v", show.Print(p), name, c.Ins, c.Outs)
	}
	return c
}

// means holds the flat program of a node to the node's meaning.
func means(t *testing.T, p api.Program, name string, ins [][]int) {
	t.Helper()
	c := made(t, p, name)
	want, e := stream.Run(p, name, ins)
	if e != api.OK {
		t.Fatalf("%s\n%s: error %d", show.Print(p), name, e)
	}
	if got, e := core.Run(c, ins); e != api.OK || !same(got, want) {
		t.Fatalf("%s\n%s of %v: error %d,\n%v, not\n%v", show.Print(p), name, ins, e, got, want)
	}
}

// count is the number of a node's parts, those of all that it calls too, element by element.
func count(p api.Program, n api.Node) int {
	sum, vars := 0, []api.Var{}
	var items func([]api.Item)
	conditions := func(list []api.Trans) {
		for _, t := range list {
			sum += heft(p, n, vars, t.Cond)
		}
	}
	items = func(list []api.Item) {
		for _, i := range list {
			if len(i.States) == 0 {
				sum += heft(p, n, vars, i.E)
			}
			for _, s := range i.States {
				around := vars
				conditions(s.Unless)
				vars = append(slices.Clone(vars), s.Locals...)
				items(s.Items)
				conditions(s.Until)
				vars = around
			}
		}
	}
	items(n.Items)
	return sum
}

func heft(p api.Program, n api.Node, vars []api.Var, e api.Exp) int {
	times := 1
	types, _, _ := asked.Of(p, n, vars, e)
	sum := max(1, types[0].Len)
	for _, k := range e.Kids {
		sum += heft(p, n, vars, k)
	}
	switch e.Form {
	case api.EMap, api.EFold:
		list, _, _ := asked.Of(p, n, vars, e.Kids[len(e.Kids)-1])
		times = list[0].Len
		fallthrough
	case api.ECall, api.EReset:
		sum += times * count(p, node(p, e.Name))
	}
	return sum
}

// room is what chapter 12 leaves for equations: four times the parts, the inputs and the outputs.
func room(p api.Program, n api.Node) int {
	return 4 * (count(p, n) + len(kindsOf(n.Ins)) + len(kindsOf(n.Outs)))
}

func sizes(c api.Core) (variables, equations int) {
	return len(c.Ins) + len(c.Outs) + len(c.Locals), len(c.Eqs)
}

// isNothing: that is what stands beside an error.
func isNothing(c api.Core) bool {
	return c.Ins == nil && c.Outs == nil && c.Locals == nil && c.Eqs == nil
}

// TestP1201Made holds the flat programs of made nodes to their meaning, and to the room that they have; where one is too long it had none.
func TestP1201Made(t *testing.T) {
	seen := map[api.Errno]int{}
	for seed := range 1000 {
		m := &maker{r: rand.New(rand.NewSource(int64(seed)))}
		p := m.program()
		if seed%3 == 0 {
			p = taken(t, show.Print(p))
		}
		for _, n := range p.Nodes[m.given:] {
			c, e := flat.Make(p, n.Name)
			seen[e]++
			most := room(p, n)
			if e == api.ErrLong && most > api.MaxEqs && isNothing(c) {
				continue
			}
			means(t, p, n.Name, m.ticks(n, 14))
			if vars, eqs := sizes(c); vars > most || eqs > most {
				t.Fatalf("%s\n%s: %d variables, %d equations, but %d", show.Print(p), n.Name, vars, eqs, most)
			}
		}
	}
	if seen[api.OK] < 1500 {
		t.Error(seen)
	}
}

// TestP1201Expanded: of a program whose arrays were taken apart the flat program means the same.
func TestP1201Expanded(t *testing.T) {
	for seed := range 300 {
		m := &maker{r: rand.New(rand.NewSource(int64(-1 - seed)))}
		p := m.program()
		q, e := arrays.Expand(p)
		if e != api.OK {
			t.Fatalf("%s\nerror %d", show.Print(p), e)
		}
		for _, n := range p.Nodes[m.given:] {
			c, e := flat.Make(q, n.Name)
			if e == api.ErrLong {
				continue
			}
			ins := m.ticks(n, 14)
			want, _ := stream.Run(p, n.Name, ins)
			if got, e := core.Run(c, ins); e != api.OK || !same(got, want) {
				t.Fatalf("%s\n%s of %v: error %d, %v, not %v", show.Print(p), n.Name, ins, e, got, want)
			}
		}
	}
}
