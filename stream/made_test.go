package stream_test

import (
	"math/rand"
	"slices"
	"testing"

	"metronome/api"
	"metronome/arrays"
	"metronome/cause"
	"metronome/clocks"
	"metronome/first"
	"metronome/gram"
	"metronome/names"
	"metronome/show"
	"metronome/stream"
	asked "metronome/types"
)

// taken is the program of a text that all checks take.
func taken(t *testing.T, text string) api.Program {
	t.Helper()
	p, at, e := gram.Parse(text)
	if e != api.OK {
		t.Fatalf("%s\nerror %d at %d", text, e, at)
	}
	for _, check := range []func(api.Program) (int, api.Errno){names.Check, asked.Check, clocks.Check, first.Check, cause.Check} {
		if at, e := check(p); e != api.OK {
			t.Fatalf("%s\nerror %d at %d", text, e, at)
		}
	}
	return p
}

func same(a, b [][]int) bool { return slices.EqualFunc(a, b, slices.Equal[[]int]) }

func run(t *testing.T, p api.Program, node string, ins [][]int) [][]int {
	t.Helper()
	outs, e := stream.Run(p, node, ins)
	if e != api.OK {
		t.Fatalf("%s\n%s: error %d", show.Print(p), node, e)
	}
	return outs
}

// weight is the number of expressions of a node and of all that it calls.
func weight(p api.Program, n api.Node) int {
	sum, vars := 0, []api.Var{}
	var items func([]api.Item)
	conditions := func(list []api.Trans) {
		for _, t := range list {
			sum += heft(p, n, vars, t.Cond)
		}
	}
	items = func(list []api.Item) {
		for _, i := range list {
			if len(i.States) == 0 {
				sum += heft(p, n, vars, i.E)
			}
			for _, s := range i.States {
				around := vars
				conditions(s.Unless)
				vars = append(slices.Clone(vars), s.Locals...)
				items(s.Items)
				conditions(s.Until)
				vars = around
			}
		}
	}
	items(n.Items)
	return sum
}

func heft(p api.Program, n api.Node, vars []api.Var, e api.Exp) int {
	sum, times := 1, 1
	for _, k := range e.Kids {
		sum += heft(p, n, vars, k)
	}
	switch e.Form {
	case api.EMap, api.EFold:
		list, _, _ := asked.Of(p, n, vars, e.Kids[len(e.Kids)-1])
		times = list[0].Len
		fallthrough
	case api.ECall, api.EReset:
		at := slices.IndexFunc(p.Nodes, func(n api.Node) bool { return n.Name == e.Name })
		sum += times * weight(p, p.Nodes[at])
	}
	return sum
}

// leftOut are the rules that the oracle can leave out.
var leftOut = []string{
	"equation", "when", "merge", "if", "arrow", "pre's activation", "tick's activations", "tick's beginning",
	"reset", "reset from then on", "life of a call", "map", "fold",
	"unless", "until", "then of unless", "then of until", "continue of unless", "continue of until", "continue takes away", "first condition", "mark", "mark taken away", "life of a state", "state of an automaton", "other states",
}

// differs tells whether a node shows a rule; one that can't be left out of it (a value would not be there) does.
func differs(p api.Program, node string, ticks, want [][]int, rule string) (yes bool) {
	defer func() {
		if recover() != nil {
			yes = true
		}
	}()
	return !same(meaning(p, node, ticks, rule), want)
}

// TestP1101Oracle holds Run against the oracle, of made programs, until each rule has shown.
func TestP1101Oracle(t *testing.T) {
	shown := map[string]int{}
	for seed := range 1200 {
		m := &maker{r: rand.New(rand.NewSource(int64(seed)))}
		text := show.Print(m.program())
		p := taken(t, text)
		for _, n := range p.Nodes[m.given:] {
			ticks := m.ticks(n, 10)
			heavy := weight(p, n)
			if got, e := stream.Run(p, n.Name, ticks); heavy > maxWeight && (e != api.ErrLong || got != nil) {
				t.Fatalf("%s\n%s: error %d, %v", text, n.Name, e, got)
			}
			if heavy > 2000 {
				continue
			}
			want := meaning(p, n.Name, ticks, "")
			if got := run(t, p, n.Name, ticks); !same(got, want) {
				t.Fatalf("%s\n%s of %v: %v, not %v", text, n.Name, ticks, got, want)
			}
			if seed%2 > 0 || heavy > 400 {
				continue
			}
			for _, rule := range leftOut {
				if differs(p, n.Name, ticks, want, rule) {
					shown[rule]++
				}
			}
		}
	}
	for _, rule := range leftOut {
		if shown[rule] < 3 {
			t.Errorf("without %q: %d nodes", rule, shown[rule])
		}
	}
}

// TestP1101Expanded: a program without arrays that means the same tells the same.
func TestP1101Expanded(t *testing.T) {
	for seed := range 500 {
		m := &maker{r: rand.New(rand.NewSource(int64(-1 - seed)))}
		p := m.program()
		q, e := arrays.Expand(p)
		if e != api.OK {
			t.Fatalf("%s\nerror %d", show.Print(p), e)
		}
		for i, n := range p.Nodes[m.given:] {
			if max(weight(p, n), weight(q, q.Nodes[m.given+i])) > maxWeight {
				continue
			}
			ticks := m.ticks(n, 20)
			if got, want := run(t, p, n.Name, ticks), run(t, q, n.Name, ticks); !same(got, want) {
				t.Fatalf("%s\n%s of %v: %v, not %v", show.Print(p), n.Name, ticks, got, want)
			}
		}
	}
}
