package clocks

import (
	"math"
	"math/rand"
	"reflect"
	"slices"
	"testing"

	"metronome/api"
)

// TestP802Kept: what is handed in stays as it is, its spare room too, and tells the same again.
func TestP802Kept(t *testing.T) {
	for seed := range 300 {
		m := &maker{r: rand.New(rand.NewSource(int64(seed))), odd: seed % 3 * 5}
		p := roomy(reflect.ValueOf(m.program())).Interface().(api.Program)
		before := whole(reflect.ValueOf(p))
		at, what := Check(p)
		if after := whole(reflect.ValueOf(p)); !reflect.DeepEqual(after.Interface(), before.Interface()) {
			t.Fatalf("%+v, no longer %+v", after, before)
		}
		if againAt, again := Check(p); againAt != at || again != what {
			t.Fatalf("error %d at %d, then %d at %d", what, at, again, againAt)
		}
	}
}

// roomy is a copy whose lists have spare room.
func roomy(v reflect.Value) reflect.Value {
	out := reflect.New(v.Type()).Elem()
	switch v.Kind() {
	case reflect.Struct:
		for i := range v.NumField() {
			out.Field(i).Set(roomy(v.Field(i)))
		}
	case reflect.Slice:
		out.Set(reflect.MakeSlice(v.Type(), v.Len(), v.Len()+2))
		for i := range v.Len() {
			out.Index(i).Set(roomy(v.Index(i)))
		}
	default:
		out.Set(v)
	}
	return out
}

// whole is a copy whose lists have their spare room in them.
func whole(v reflect.Value) reflect.Value {
	out := reflect.New(v.Type()).Elem()
	switch v.Kind() {
	case reflect.Struct:
		for i := range v.NumField() {
			out.Field(i).Set(whole(v.Field(i)))
		}
	case reflect.Slice:
		all := v.Slice(0, v.Cap())
		for i := range all.Len() {
			out.Set(reflect.Append(out, whole(all.Index(i))))
		}
	default:
		out.Set(v)
	}
	return out
}

// TestP802Fields: what a form does not have is not looked at; inputs and outputs have no clock.
func TestP802Fields(t *testing.T) {
	for _, text := range []string{"y = x;", "y = 1i8;", "y = cast(i8, tick(2, 0));", "y = x + 1i8;", "y = -x;", "y = if b then x else y;", "y = 0i8 -> pre y;", "y = 0i8 fby y;", "y = merge(b, when(x, b), 1i8);", "y = neg(x);", "y = reset(neg(x), b);", "y = [x, y][1];", "y = rep(x, 2)[0];", "y = map(neg, xs)[0];", "y = fold(add, x, xs);"} {
		p := parsed(t, callable+"node f(x: i8; xs: i8^2; b: bool) returns (y: i8) var u: i8 when b; let u = 1i8; "+text+" tel")
		n := &p.Nodes[len(p.Nodes)-1]
		n.Ins[0].Clock, n.Outs[0].Clock = []api.Edge{{Name: "b", On: true}}, []api.Edge{{Name: "x"}}
		spoil(&n.Items[1].E)
		if at, e := Check(p); at != 0 || e != api.OK {
			t.Errorf("%s: error %d at %d", text, e, at)
		}
	}
	p := parsed(t, "node f(x: i8; c: bool) returns (y: i8) var u: i8 when c; let u = 1i8; automaton state A do y = x; end tel")
	p.Nodes[0].Items[1].Names, p.Nodes[0].Items[1].E = []string{"u", "y"}, api.Exp{Form: api.EVar, Name: "u"}
	if at, e := Check(p); at != 0 || e != api.OK {
		t.Errorf("error %d at %d", e, at)
	}
}

// spoil writes into the fields that a form does not have.
func spoil(e *api.Exp) {
	for i := range e.Kids {
		spoil(&e.Kids[i])
	}
	u := api.Exp{Form: api.EVar, Name: "u"}
	switch e.Form {
	case api.EVar, api.EWhen, api.EMerge, api.ECall, api.EReset, api.EMap, api.EFold:
	default:
		e.Name = "u"
	}
	switch e.Form {
	case api.ELit, api.EVar, api.ETick:
		e.Kids = []api.Exp{u, {Form: api.EBin, Kids: []api.Exp{u, {Form: api.EVar, Name: "x"}}}}
	}
	if e.Form != api.EWhen && e.Form != api.ETick {
		e.N = -7
	}
	e.M, e.T = -7, api.Type{Kind: -7, Len: -7}
}

// TestP802Wrong: programs that Parse can't answer, or whose names or types are wrong.
func TestP802Wrong(t *testing.T) {
	numbers := []int{math.MinInt, -1, 0, 1, 17, math.MaxInt}
	forms := slices.Clone(append(numbers, 20, 99))
	for form := range api.EFold + 1 {
		forms = append(forms, form)
	}
	vars := []api.Var{{Name: "a", T: api.Type{Kind: api.Bool}, Clock: []api.Edge{{Name: "q"}, {Name: "a"}}}, {Name: "a"}, {Name: "d", Clock: []api.Edge{{Name: "d"}}}, {Name: "e", Clock: []api.Edge{{Name: "c"}}}, {Name: "c"}}
	for _, form := range forms {
		for kids := range 4 {
			for i, name := range []string{"", "a", "q", "d", "e", "c"} {
				kid := []api.Exp{{Form: api.EVar, Name: name}, {Form: api.ELit}, {}, {Form: form, Name: "e"}}
				e := api.Exp{Form: form, Name: name, Sub: i, N: numbers[i%6], M: numbers[i*5%6], Kids: kid[4-kids:], At: -3}
				state := api.State{Locals: vars, Unless: []api.Trans{{Cond: e}}, Items: []api.Item{{E: e}, {Names: []string{name, "c", "none"}, E: e}}, Until: []api.Trans{{Cond: e}}}
				for _, locals := range [][]api.Var{nil, vars, vars[3:]} {
					n := api.Node{Ins: vars[1:2], Outs: vars[:1], Locals: locals, Items: []api.Item{{Names: []string{"a", "q"}, E: e}, {E: e}, {States: []api.State{state, state}}}}
					for from := range n.Items {
						alone := n
						alone.Items = n.Items[from:]
						if at, what := Check(api.Program{Nodes: []api.Node{alone, n}}); what == api.OK && at != 0 {
							t.Errorf("%+v: at %d", e, at)
						}
					}
				}
			}
		}
	}
	for _, n := range []api.Node{
		{}, {Name: "\x00\xff"}, {Items: []api.Item{{}}}, {Items: []api.Item{{Names: []string{""}}}}, {Locals: []api.Var{{Clock: []api.Edge{{}}}}}, {Locals: []api.Var{{Clock: []api.Edge{{}, {}, {}}, At: math.MinInt}}},
		{Items: []api.Item{{States: []api.State{{}}}}}, {Items: []api.Item{{States: []api.State{{Locals: []api.Var{{}, {}}}}}}}, {At: math.MinInt, Ins: []api.Var{{At: -1, T: api.Type{Len: math.MaxInt}}}},
	} {
		Check(api.Program{Nodes: []api.Node{n, n}})
	}
}

// TestP802Deep: a call ends, however deep the parts are within one another.
func TestP802Deep(t *testing.T) {
	const deep = 1<<16 - 10
	vars := []api.Var{{Name: "a", T: api.Type{Kind: api.Bool}}}
	for form := -1; form <= api.EFold+1; form++ {
		e := api.Exp{Form: api.EVar, Name: "a", At: 9}
		for range deep {
			e = api.Exp{Form: form, Name: "a", Kids: []api.Exp{e}, At: 8}
		}
		at, what := Check(api.Program{Nodes: []api.Node{{Name: "f", Outs: vars, Items: []api.Item{{Names: []string{"a"}, E: e}}}}})
		if form != api.EWhen && form != api.EMerge && (at != 0 || what != api.OK) {
			t.Errorf("form %d: error %d at %d", form, what, at)
		}
	}
	for name, want := range map[string]fault{"a": {0, api.OK}, "l": {9, api.ErrClock}} {
		i := api.Item{Names: []string{"a"}, E: api.Exp{Form: api.EVar, Name: name}, At: 9}
		for range deep {
			i = api.Item{States: []api.State{{Name: "S", Items: []api.Item{i}}}}
		}
		locals := []api.Var{{Name: "l", Clock: []api.Edge{{Name: "a", On: true}}}}
		if at, e := Check(api.Program{Nodes: []api.Node{{Outs: vars, Locals: locals, Items: []api.Item{i}}}}); at != want.at || e != want.what {
			t.Errorf("error %d at %d", e, at)
		}
	}
}
