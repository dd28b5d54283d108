package cause

import (
	"math"
	"math/rand"
	"reflect"
	"slices"
	"strconv"
	"testing"

	"metronome/api"
)

// TestP1003Kept: what is handed in stays as it is, its spare room too, and tells the same again.
func TestP1003Kept(t *testing.T) {
	for seed := range 300 {
		m := &maker{r: rand.New(rand.NewSource(int64(seed))), odd: seed % 3 * 100, deep: seed % 3}
		p := roomy(reflect.ValueOf(m.program())).Interface().(api.Program)
		before := whole(reflect.ValueOf(p))
		at, what := Check(p)
		for _, n := range p.Nodes {
			list, ok := Order(p, n)
			if again, still := Order(p, n); still != ok || !slices.Equal(again, list) {
				t.Fatalf("%q, then %q", list, again)
			}
		}
		if after := whole(reflect.ValueOf(p)); !reflect.DeepEqual(after.Interface(), before.Interface()) {
			t.Fatalf("%+v, no longer %+v", after, before)
		}
		if againAt, again := Check(p); againAt != at || again != what {
			t.Fatalf("error %d at %d, then %d at %d", what, at, again, againAt)
		}
	}
}

// roomy is a copy whose lists have spare room.
func roomy(v reflect.Value) reflect.Value {
	out := reflect.New(v.Type()).Elem()
	switch v.Kind() {
	case reflect.Struct:
		for i := range v.NumField() {
			out.Field(i).Set(roomy(v.Field(i)))
		}
	case reflect.Slice:
		out.Set(reflect.MakeSlice(v.Type(), v.Len(), v.Len()+2))
		for i := range v.Len() {
			out.Index(i).Set(roomy(v.Index(i)))
		}
	default:
		out.Set(v)
	}
	return out
}

// whole is a copy whose lists have their spare room in them.
func whole(v reflect.Value) reflect.Value {
	out := reflect.New(v.Type()).Elem()
	switch v.Kind() {
	case reflect.Struct:
		for i := range v.NumField() {
			out.Field(i).Set(whole(v.Field(i)))
		}
	case reflect.Slice:
		all := v.Slice(0, v.Cap())
		for i := range all.Len() {
			out.Set(reflect.Append(out, whole(all.Index(i))))
		}
	default:
		out.Set(v)
	}
	return out
}

// TestP1003New: an answer that is written over changes no other one.
func TestP1003New(t *testing.T) {
	p := taken(t, "node f(i: i8) returns (x, y: i8) var z: i8; let x = y; y = z; z = i; tel")
	first, _ := Order(p, p.Nodes[0])
	second, _ := Order(p, p.Nodes[0])
	for i := range first {
		first[i] = "other"
	}
	_ = append(first[:0], "more", "more")
	third, _ := Order(p, p.Nodes[0])
	if want := []string{"z", "y", "x"}; !slices.Equal(second, want) || !slices.Equal(third, want) {
		t.Errorf("%q, %q", second, third)
	}
}

// TestP1003Fields: what a form does not have is not looked at; nor is the clock of an input or output.
func TestP1003Fields(t *testing.T) {
	y := api.Exp{Form: api.EVar, Name: "y"}
	for form := api.ELit; form <= api.EFold; form++ {
		e := api.Exp{Form: form, Sub: 77, T: api.Type{Kind: 77, Len: -1}, N: -1, M: 77, Name: "y", At: -3}
		want := api.OK
		switch form {
		case api.ELit, api.ETick:
			e.Kids = []api.Exp{y, {Form: api.EUn, Kids: []api.Exp{y}}}
		case api.EVar, api.EWhen, api.EMerge:
			want = api.ErrCycle
		}
		n := api.Node{Outs: []api.Var{{Name: "y"}}, Items: []api.Item{{Names: []string{"y"}, E: e}}}
		if _, got := Check(api.Program{Nodes: []api.Node{n}}); got != want {
			t.Errorf("form %d: error %d", form, got)
		}
		if _, ok := Order(api.Program{}, n); ok != (want == api.OK) {
			t.Errorf("form %d: %v", form, ok)
		}
	}
	clock := []api.Edge{{Name: "y", On: true}}
	n := api.Node{Ins: []api.Var{{Name: "i", Clock: clock}}, Outs: []api.Var{{Name: "x", Clock: clock}, {Name: "y", Clock: clock}}}
	n.Items = []api.Item{{Names: []string{"x"}}, {Names: []string{"y"}, E: api.Exp{Form: api.EVar, Name: "x"}}}
	checkBoth(t, n, api.OK, "x", "y")
	// an automaton has neither names nor an expression of its own, and states have names for themselves
	n = api.Node{Outs: []api.Var{{Name: "y"}}, Items: []api.Item{{Names: []string{"y"}, E: y, States: []api.State{{Name: "y", Until: []api.Trans{{Cond: y, To: "y"}}, Items: []api.Item{{Names: []string{"y"}}}}}}}}
	if at, e := Check(api.Program{Nodes: []api.Node{n}}); at != 0 || e != api.OK {
		t.Errorf("error %d at %d", e, at)
	}
	// no states, but a list of them
	n.Items[0].States = []api.State{}
	checkBoth(t, n, api.ErrCycle)
	// a clock that names.Check refuses: its variable hangs on itself at once
	checkBoth(t, api.Node{Locals: []api.Var{{Name: "y", Clock: clock}}, Items: []api.Item{{Names: []string{"y"}}}}, api.ErrCycle)
}

// checkBoth asks Check and Order of a node without automata.
func checkBoth(t *testing.T, n api.Node, want api.Errno, order ...string) {
	t.Helper()
	if at, e := Check(api.Program{Nodes: []api.Node{n}}); at != 0 || e != want {
		t.Errorf("error %d at %d, not %d", e, at, want)
	}
	if list, ok := Order(api.Program{}, n); ok != (want == api.OK) || !slices.Equal(list, order) {
		t.Errorf("%d names, %v", len(list), ok)
	}
}

// TestP1003Wrong: programs that Parse can't answer.
func TestP1003Wrong(t *testing.T) {
	a := api.Exp{Form: api.EVar, Name: "a"}
	var nodes []api.Node
	for _, form := range []int{math.MinInt, -1, 0, 1, 2, 3, 6, 8, 9, 10, 12, 14, 18, 19, 20, 99, math.MaxInt} {
		for kids := range 5 {
			e := api.Exp{Form: form, Name: "a", Kids: slices.Repeat([]api.Exp{a}, kids)}
			equations := []api.Item{{E: e}, {Names: []string{"a", "a", "", "b"}, E: e}, {}}
			state := api.State{Unless: []api.Trans{{Cond: e}}, Locals: []api.Var{{Name: "a", Clock: []api.Edge{{Name: "a"}}}, {Name: "a"}}, Items: equations, Until: []api.Trans{{Cond: e}}}
			nodes = append(nodes, api.Node{Items: equations}, api.Node{Outs: []api.Var{{Name: "a"}, {Name: "a"}}, Items: equations}, api.Node{Outs: []api.Var{{Name: "a"}}, Locals: []api.Var{{Name: "a", Clock: []api.Edge{{}, {Name: "a"}}}}, Items: []api.Item{{States: []api.State{state, {}, state}}, {E: e, Names: []string{"a"}}}})
		}
	}
	nodes = append(nodes, api.Node{}, api.Node{Name: "\x00\xff"}, api.Node{Locals: []api.Var{{}, {Clock: []api.Edge{{}}}}}, api.Node{Items: []api.Item{{States: []api.State{{}}}}})
	for _, n := range nodes {
		if at, e := Check(api.Program{Nodes: []api.Node{{}, n, n}}); e != api.OK && e != api.ErrCycle || at != 0 {
			t.Errorf("%+v: error %d at %d", n, e, at)
		}
		if list, ok := Order(api.Program{Nodes: []api.Node{n}}, n); !ok && list != nil {
			t.Errorf("%+v: %q", n, list)
		}
	}
}

// TestP1003Deep: a call ends, however deep the parts are within one another.
func TestP1003Deep(t *testing.T) {
	const deep = 1<<16 - 10
	outs := []api.Var{{Name: "a"}}
	for form := -1; form <= api.EFold+1; form++ {
		e := api.Exp{Form: api.EVar, Name: "a"}
		for range deep {
			e = api.Exp{Form: form, Name: "f", Kids: []api.Exp{e}}
		}
		n := api.Node{Outs: outs, Items: []api.Item{{Names: []string{"a"}, E: e}}}
		if form == api.ELit || form == api.EVar || form == api.ETick || form == api.EPre {
			checkBoth(t, n, api.OK, "a")
		} else {
			checkBoth(t, n, api.ErrCycle)
		}
	}
	for name, want := range map[string]api.Errno{"a": api.ErrCycle, "b": api.OK} {
		i := api.Item{Names: []string{"a"}}
		for range deep {
			i = api.Item{States: []api.State{{Name: "S", Items: []api.Item{i}}}}
		}
		i.States[0].Unless = []api.Trans{{Cond: api.Exp{Form: api.EVar, Name: name}, To: "S"}}
		if at, e := Check(api.Program{Nodes: []api.Node{{Ins: []api.Var{{Name: "b"}}, Outs: outs, Items: []api.Item{i}}}}); at != 0 || e != want {
			t.Errorf("error %d at %d, not %d", e, at, want)
		}
	}
}

// chain is a node of as many variables, each of which hangs on the one behind it; the last one on the variable at a place.
func chain(long, last int) (n api.Node) {
	for i := range long {
		on := i + 1
		if on == long {
			on = last
		}
		n.Outs = append(n.Outs, api.Var{Name: "x" + strconv.Itoa(i), At: i})
		n.Items = append(n.Items, api.Item{Names: []string{"x" + strconv.Itoa(i)}, E: api.Exp{Form: api.EVar, Name: "x" + strconv.Itoa(on)}})
	}
	return n
}

// TestP1003Long: a call ends, however long the way is by which a variable hangs on another.
func TestP1003Long(t *testing.T) {
	const long = 200000
	for last, want := range map[int]api.Errno{0: api.ErrCycle, long / 2: api.ErrCycle, long - 1: api.ErrCycle, long: api.OK} {
		n := chain(long, last)
		if at, e := Check(api.Program{Nodes: []api.Node{n}}); e != want || at != last%long {
			t.Errorf("%d: error %d at %d", last, e, at)
		}
		list, ok := Order(api.Program{}, n)
		if ok != (want == api.OK) || ok && (len(list) != long || list[0] != "x"+strconv.Itoa(long-1)) {
			t.Errorf("%d: %d names, %v", last, len(list), ok)
		}
	}
}

// TestP1003Many: what many read, and many hang on, is not gone over for each of them.
func TestP1003Many(t *testing.T) {
	const many = 20000
	var n api.Node
	var sum api.Exp
	var names []string
	for i := range many {
		name := "x" + strconv.Itoa(i)
		n.Outs = append(n.Outs, api.Var{Name: name}, api.Var{Name: "y" + name})
		names = append(names, name)
		sum.Kids = append(sum.Kids, api.Exp{Form: api.EVar, Name: "y" + name})
		n.Items = append(n.Items, api.Item{Names: []string{"y" + name}})
	}
	n.Items = append(n.Items, api.Item{Names: names, E: sum})
	if list, ok := Order(api.Program{}, n); !ok || len(list) != 2*many || list[0] != "yx0" || list[many] != "x0" {
		t.Errorf("%d names, %v", len(list), ok)
	}
	n.Items = []api.Item{{States: []api.State{{Unless: []api.Trans{{Cond: sum}}, Items: n.Items}}}}
	if at, e := Check(api.Program{Nodes: []api.Node{n}}); at != 0 || e != api.ErrCycle {
		t.Errorf("error %d at %d", e, at)
	}
}
