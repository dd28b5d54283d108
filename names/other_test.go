package names

import (
	"math"
	"math/rand"
	"reflect"
	"slices"
	"testing"

	"metronome/api"
)

// TestP503Kept: what is handed in stays as it is, its spare room too.
func TestP503Kept(t *testing.T) {
	for seed := range 300 {
		m := &maker{r: rand.New(rand.NewSource(int64(seed))), odd: seed % 3 * 5}
		p := roomy(reflect.ValueOf(m.program())).Interface().(api.Program)
		before := whole(reflect.ValueOf(p))
		at, what := Check(p)
		for _, n := range p.Nodes {
			for _, i := range n.Items {
				Uses(i.E)
				Calls(i.E)
				Memory(i.E)
			}
		}
		if after := whole(reflect.ValueOf(p)); !reflect.DeepEqual(after.Interface(), before.Interface()) {
			t.Fatalf("%+v, no longer %+v", after, before)
		}
		if againAt, again := Check(p); againAt != at || again != what {
			t.Fatalf("error %d at %d, then %d at %d", what, at, again, againAt)
		}
	}
}

// roomy is a copy whose lists have spare room.
func roomy(v reflect.Value) reflect.Value {
	out := reflect.New(v.Type()).Elem()
	switch v.Kind() {
	case reflect.Struct:
		for i := range v.NumField() {
			out.Field(i).Set(roomy(v.Field(i)))
		}
	case reflect.Slice:
		out.Set(reflect.MakeSlice(v.Type(), v.Len(), v.Len()+2))
		for i := range v.Len() {
			out.Index(i).Set(roomy(v.Index(i)))
		}
	default:
		out.Set(v)
	}
	return out
}

// whole is a copy whose lists have their spare room in them.
func whole(v reflect.Value) reflect.Value {
	out := reflect.New(v.Type()).Elem()
	switch v.Kind() {
	case reflect.Struct:
		for i := range v.NumField() {
			out.Field(i).Set(whole(v.Field(i)))
		}
	case reflect.Slice:
		all := v.Slice(0, v.Cap())
		for i := range all.Len() {
			out.Set(reflect.Append(out, whole(all.Index(i))))
		}
	default:
		out.Set(v)
	}
	return out
}

// TestP503New: an answer that is written over changes no other one.
func TestP503New(t *testing.T) {
	e := expOf(t, "f(a, b) + g(c)")
	for _, call := range []func(api.Exp) []string{Uses, Calls} {
		first := call(e)
		want := slices.Clone(first)
		second := call(e)
		for i := range first {
			first[i] = "other"
		}
		_ = append(first[:0], "more", "more")
		if !slices.Equal(second, want) || !slices.Equal(call(e), want) {
			t.Errorf("%q, not %q", second, want)
		}
	}
}

// TestP503Fields: what a form does not have is not looked at.
func TestP503Fields(t *testing.T) {
	junk := []api.Exp{{Form: api.EPre, Kids: []api.Exp{{Form: api.ECall, Name: "junk"}, {Form: api.EVar, Name: "junk"}}}}
	for form := api.ELit; form <= api.EFold; form++ {
		e := api.Exp{Form: form, Sub: 77, T: api.Type{Kind: 77, Len: -1}, N: -1, M: 77, Name: "a", At: -3, Kids: []api.Exp{{Form: api.EVar, Name: "b"}}}
		if form == api.ELit || form == api.EVar || form == api.ETick {
			e.Kids = junk
		}
		var uses, calls []string
		switch form {
		case api.EVar, api.EWhen, api.EMerge:
			uses = []string{"a"}
		case api.ECall, api.EReset, api.EMap, api.EFold:
			calls = []string{"a"}
		}
		if !leaf(form) {
			uses = append(uses, "b")
		}
		if got := Uses(e); !slices.Equal(got, uses) {
			t.Errorf("form %d uses %q", form, got)
		}
		if got := Calls(e); !slices.Equal(got, calls) {
			t.Errorf("form %d calls %q", form, got)
		}
		if got, want := Memory(e), calls != nil || form >= api.EPre && form <= api.EFby || form == api.ETick; got != want {
			t.Errorf("form %d: memory %v", form, got)
		}
	}
	p := parsed(t, within("l = x; automaton state A do y = x; end"))
	p.Nodes[1].Items[1].Names, p.Nodes[1].Items[1].E = []string{"q"}, junk[0]
	p.Nodes[0].Ins[0].Clock, p.Nodes[0].Outs[0].Clock = []api.Edge{{Name: "q"}}, []api.Edge{{Name: "q"}}
	if at, e := Check(p); at != 0 || e != api.OK {
		t.Errorf("error %d at %d", e, at)
	}
}

// TestP503Wrong: programs that Parse can't answer.
func TestP503Wrong(t *testing.T) {
	a := api.Exp{Form: api.EVar, Name: "a"}
	for _, form := range []int{math.MinInt, -1, 0, 1, 2, 3, 9, 10, 14, 15, 18, 19, 20, 99, math.MaxInt} {
		for kids := range 4 {
			e := api.Exp{Form: form, Kids: slices.Repeat([]api.Exp{a}, kids)}
			Uses(e)
			Calls(e)
			Memory(e)
			Check(api.Program{Nodes: []api.Node{{Items: []api.Item{{E: e}}}}})
			Check(api.Program{Nodes: []api.Node{{Items: []api.Item{{States: []api.State{{Unless: []api.Trans{{Cond: e}}, Until: []api.Trans{{Cond: e}}}}}}}}})
		}
	}
	for _, n := range []api.Node{
		{}, {Name: "\x00\xff"}, {Items: []api.Item{{}}}, {Items: []api.Item{{Names: []string{""}}}}, {Outs: []api.Var{{}}, Items: []api.Item{{Names: []string{""}}}}, {Locals: []api.Var{{Clock: []api.Edge{{}}}}},
		{Items: []api.Item{{States: []api.State{{}}}}}, {Items: []api.Item{{States: []api.State{{}, {}}}}}, {Items: []api.Item{{States: []api.State{{Locals: []api.Var{{}, {}}}}}}}, {At: math.MinInt, Ins: []api.Var{{At: -1}, {At: math.MaxInt}}},
	} {
		Check(api.Program{Nodes: []api.Node{n, n}})
	}
}

// TestP503Deep: a call ends, however deep the parts are within one another.
func TestP503Deep(t *testing.T) {
	const deep = 1<<16 - 10
	for form := -1; form <= api.EFold+1; form++ {
		e := api.Exp{Form: api.EVar, Name: "a"}
		for range deep {
			e = api.Exp{Form: form, Name: "f", Kids: []api.Exp{e}}
		}
		if uses := Uses(e); form == api.EWhen && (len(uses) != deep+1 || uses[deep] != "a") {
			t.Errorf("%d names", len(uses))
		}
		if calls := Calls(e); form == api.EFold && len(calls) != deep {
			t.Errorf("%d names", len(calls))
		}
		Memory(e)
		Check(api.Program{Nodes: []api.Node{{Name: "f"}, {Outs: []api.Var{{Name: "a"}}, Items: []api.Item{{Names: []string{"a"}, E: e}}}}})
	}
	i := api.Item{Names: []string{"a"}, E: api.Exp{Form: api.EVar, Name: "b", At: 9}}
	for n := range deep {
		i = api.Item{At: n, States: []api.State{{Name: "S", Items: []api.Item{i}}}}
	}
	if at, e := Check(api.Program{Nodes: []api.Node{{Outs: []api.Var{{Name: "a"}}, Items: []api.Item{i}}}}); at != 9 || e != api.ErrName {
		t.Errorf("error %d at %d", e, at)
	}
	if at, e := Check(api.Program{Nodes: []api.Node{{Outs: []api.Var{{Name: "a"}, {Name: "b"}}, Items: []api.Item{i, {Names: []string{"b"}, At: 7}}}}}); at != 0 || e != api.OK {
		t.Errorf("error %d at %d", e, at)
	}
}
