package types

import (
	"math"
	"math/rand"
	"reflect"
	"slices"
	"testing"

	"metronome/api"
	"metronome/gram"
)

// TestP603Kept: what is handed in stays as it is, its spare room too, and tells the same again.
func TestP603Kept(t *testing.T) {
	for seed := range 200 {
		m := &maker{r: rand.New(rand.NewSource(int64(seed))), odd: seed % 3 * 5}
		p := roomy(reflect.ValueOf(m.program())).Interface().(api.Program)
		n := p.Nodes[len(p.Nodes)-1]
		extra := roomy(reflect.ValueOf([]api.Var{{Name: "x1", T: kind(api.Bool), Clock: []api.Edge{{Name: "q"}}}})).Interface().([]api.Var)
		all := reflect.ValueOf(struct {
			P     api.Program
			Extra []api.Var
		}{p, extra})
		before := whole(all)
		at, what := Check(p)
		for _, i := range n.Items {
			Of(p, n, extra, i.E)
		}
		if after := whole(all); !reflect.DeepEqual(after.Interface(), before.Interface()) {
			t.Fatalf("%+v, no longer %+v", after, before)
		}
		if againAt, again := Check(p); againAt != at || again != what {
			t.Fatalf("error %d at %d, then %d at %d", what, at, again, againAt)
		}
	}
}

// roomy is a copy whose lists have spare room.
func roomy(v reflect.Value) reflect.Value {
	out := reflect.New(v.Type()).Elem()
	switch v.Kind() {
	case reflect.Struct:
		for i := range v.NumField() {
			out.Field(i).Set(roomy(v.Field(i)))
		}
	case reflect.Slice:
		out.Set(reflect.MakeSlice(v.Type(), v.Len(), v.Len()+2))
		for i := range v.Len() {
			out.Index(i).Set(roomy(v.Index(i)))
		}
	default:
		out.Set(v)
	}
	return out
}

// whole is a copy whose lists have their spare room in them.
func whole(v reflect.Value) reflect.Value {
	out := reflect.New(v.Type()).Elem()
	switch v.Kind() {
	case reflect.Struct:
		for i := range v.NumField() {
			out.Field(i).Set(whole(v.Field(i)))
		}
	case reflect.Slice:
		all := v.Slice(0, v.Cap())
		for i := range all.Len() {
			out.Set(reflect.Append(out, whole(all.Index(i))))
		}
	default:
		out.Set(v)
	}
	return out
}

// TestP603New: an answer that is written over changes no other one.
func TestP603New(t *testing.T) {
	for _, text := range []string{"x", "xs", "1i8", "-x", "x + y", "pre x", "none()", "mix(x, b)", "reset(mix(x, b), b)", "map(less, xs, xs)", "fold(add, x, xs)", "[x, y]", "rep(x, 2)", "xs[0]", "if b then x else y", "cast(u8, x)", "tick(2, 0)", "when(x, b)", "merge(b, x, y)"} {
		p, n, e, _ := expOf(t, text)
		before := whole(reflect.ValueOf(p)).Interface()
		first, _, _ := Of(p, n, nil, e)
		want := slices.Clone(first)
		second, _, _ := Of(p, n, nil, e)
		for i := range first {
			first[i] = api.Type{Kind: 77, Len: 77}
		}
		_ = append(first[:0], api.Type{Kind: 78}, api.Type{Kind: 78})
		third, _, _ := Of(p, n, nil, e)
		if !slices.Equal(second, want) || !slices.Equal(third, want) || !reflect.DeepEqual(whole(reflect.ValueOf(p)).Interface(), before) {
			t.Errorf("%s: %v, %v, not %v", text, second, third, want)
		}
	}
}

// TestP603Fields: what a form does not have is not looked at.
func TestP603Fields(t *testing.T) {
	junk := []api.Exp{{Form: api.ECall, Name: "junk", At: 88}}
	for _, text := range []string{"x", "1i8", "tick(3, 2)", "not b", "x + y", "if b then x else y", "pre x", "x -> y", "x fby y", "when(x, b)", "merge(b, x, y)", "cast(u8, x)", "neg(x)", "reset(neg(x), b)", "[x, y]", "xs[1]", "rep(x, 2)", "map(neg, xs)", "fold(add, x, xs)"} {
		p, n, e, _ := expOf(t, text)
		want, _, what := Of(p, n, nil, e)
		if what != api.OK {
			t.Fatalf("%s: error %d", text, what)
		}
		if names := []int{api.EVar, api.EWhen, api.EMerge, api.ECall, api.EReset, api.EMap, api.EFold}; !slices.Contains(names, e.Form) {
			e.Name = "junk"
		}
		if e.Form != api.ELit && e.Form != api.ECast {
			e.T = array(77, -1)
		}
		if e.Form == api.ELit || e.Form == api.EVar || e.Form == api.ETick {
			e.Kids = junk
		}
		if e.Form != api.ETick {
			e.M = -5
		}
		if e.Form != api.ETick && e.Form != api.EIndex && e.Form != api.ERep {
			e.N = -5
		}
		if e.Form != api.EUn && e.Form != api.EBin {
			e.Sub = -5
		}
		if types, at, what := Of(p, n, nil, e); !slices.Equal(types, want) || at != 0 || what != api.OK {
			t.Errorf("%s: %v, error %d at %d", text, types, what, at)
		}
	}
	p := parsed(t, "node f(x: i8) returns (y: i8) let automaton state A do y = x; end tel")
	p.Nodes[0].Items[0].Names, p.Nodes[0].Items[0].E = []string{"q"}, junk[0]
	p.Nodes[0].Ins[0].Clock, p.Nodes[0].Outs[0].Clock = []api.Edge{{Name: "x"}}, []api.Edge{{Name: "x"}}
	if at, e := Check(p); at != 0 || e != api.OK {
		t.Errorf("error %d at %d", e, at)
	}
}

// TestP603Wrong: programs that Parse can't answer, or whose names are wrong.
func TestP603Wrong(t *testing.T) {
	numbers := []int{math.MinInt, -1, 0, 1, 17, math.MaxInt}
	a := []api.Exp{{Form: api.EVar, Name: "a"}}
	forms := []int{math.MinInt, -1, 20, 99, math.MaxInt}
	for form := range api.EFold + 1 {
		forms = append(forms, form)
	}
	for _, size := range numbers {
		vars := []api.Var{{Name: "a", T: api.Type{Kind: api.I8, Len: size}, Clock: []api.Edge{{Name: "q"}, {Name: "a"}}}}
		nodes := []api.Node{{Name: "g"}, {Name: "h", Ins: vars}, {Name: "i", Outs: vars}, {Name: "j", Ins: vars, Outs: vars}, {Name: "k", Ins: append(vars, vars...), Outs: vars}}
		for _, form := range forms {
			for kids := range 4 {
				for i, name := range []string{"", "a", "q", "g", "h", "i", "j", "k"} {
					e := api.Exp{Form: form, Name: name, Sub: i, N: numbers[i%6], M: numbers[i*5%6], T: api.Type{Kind: i, Len: numbers[i%6]}, Kids: slices.Repeat(a, kids), At: -3}
					n := api.Node{Outs: vars, Items: []api.Item{{Names: []string{"a", "q"}, E: e}, {States: []api.State{{Locals: vars, Unless: []api.Trans{{Cond: e}}, Items: []api.Item{{E: e}}, Until: []api.Trans{{Cond: e}}}}}}}
					p := api.Program{Nodes: append(nodes, n)}
					at, what := Check(p)
					if what == api.OK && at != 0 {
						t.Errorf("%+v: at %d", e, at)
					}
					if types, at, what := Of(p, n, vars, e); what != api.OK && len(types) > 0 || what == api.OK && at != 0 {
						t.Errorf("%+v: %v, error %d at %d", e, types, what, at)
					}
				}
			}
		}
	}
	for _, n := range []api.Node{
		{}, {Name: "\x00\xff"}, {Items: []api.Item{{}}}, {Items: []api.Item{{Names: []string{""}}}}, {Locals: []api.Var{{Clock: []api.Edge{{}}}}},
		{Items: []api.Item{{States: []api.State{{}}}}}, {Items: []api.Item{{States: []api.State{{Locals: []api.Var{{}, {}}}}}}}, {At: math.MinInt, Ins: []api.Var{{At: -1, T: api.Type{Len: math.MaxInt}}}},
	} {
		Check(api.Program{Nodes: []api.Node{n, n}})
		Of(api.Program{}, n, nil, api.Exp{})
	}
}

// TestP603Names: names that are not there have no type, those of a state or a node that was left neither.
func TestP603Names(t *testing.T) {
	for _, text := range []string{
		"node f() returns (y: i8) let y = @q; tel", "node f() returns (y: i8) let y = @q(); tel", "node f() returns (y: i8) let y = @fold(q, y, [y]); tel", "node f(x: i8) returns (y: i8) let y = x; tel node g() returns (z: i8) let z = @x; tel",
		"node f(x: i8) returns (y, z: i8) let automaton state A var m: i8; do y = m; m = x; end z = @m; tel", "node f(x: i8) returns (y: i8) let automaton state A var m: i8; do y = m; m = x; state B do y = @m; end tel",
	} {
		text, at := marked(text)
		p, _, e := gram.Parse(text)
		if e != api.OK {
			t.Fatal(text)
		}
		if got, e := Check(p); got != at || e != api.ErrName {
			t.Errorf("%s: error %d at %d, not at %d", text, e, got, at)
		}
	}
}

// TestP603Deep: a call ends, however deep the parts are within one another.
func TestP603Deep(t *testing.T) {
	const deep = 1<<16 - 10
	vars := []api.Var{{Name: "a", T: kind(api.I8)}}
	g := api.Node{Name: "g", Ins: vars, Outs: vars, Items: []api.Item{{Names: []string{"a"}, E: api.Exp{Form: api.ELit, T: kind(api.I8)}}}}
	for form := -1; form <= api.EFold+1; form++ {
		e := api.Exp{Form: api.EVar, Name: "a", At: 9}
		for range deep {
			e = api.Exp{Form: form, Name: "g", Sub: api.OpNeg, Kids: []api.Exp{e}, At: 8}
		}
		types, at, what := Of(api.Program{Nodes: []api.Node{g}}, g, nil, e)
		if slices.Contains([]int{api.EUn, api.EPre, api.ECall}, form) && (!slices.Equal(types, []api.Type{kind(api.I8)}) || at != 0 || what != api.OK) {
			t.Errorf("form %d: %v, error %d at %d", form, types, what, at)
		}
		Check(api.Program{Nodes: []api.Node{g, {Name: "f", Outs: vars, Items: []api.Item{{Names: []string{"a"}, E: e}}}}})
	}
	for k, want := range map[int]fault{api.I8: {0, api.OK}, api.U8: {9, api.ErrType}} {
		i := api.Item{Names: []string{"a"}, E: api.Exp{Form: api.ELit, T: kind(k)}, At: 9}
		for range deep {
			i = api.Item{States: []api.State{{Name: "S", Items: []api.Item{i}}}}
		}
		if at, e := Check(api.Program{Nodes: []api.Node{{Outs: vars, Items: []api.Item{i}}}}); at != want.at || e != want.what {
			t.Errorf("error %d at %d", e, at)
		}
	}
}
