package first

import (
	"math"
	"math/rand"
	"reflect"
	"testing"

	"metronome/api"
)

// TestP903Kept: what is handed in stays as it is, its spare room too, and tells the same again.
func TestP903Kept(t *testing.T) {
	for seed := range 300 {
		m := &maker{r: rand.New(rand.NewSource(int64(seed))), odd: seed % 3 * 100, loose: seed%2 == 0}
		p := roomy(reflect.ValueOf(m.program())).Interface().(api.Program)
		before := whole(reflect.ValueOf(p))
		at, what := Check(p)
		if after := whole(reflect.ValueOf(p)); !reflect.DeepEqual(after.Interface(), before.Interface()) {
			t.Fatalf("%+v, no longer %+v", after, before)
		}
		if againAt, again := Check(p); againAt != at || again != what {
			t.Fatalf("error %d at %d, then %d at %d", what, at, again, againAt)
		}
	}
}

// roomy is a copy whose lists have spare room.
func roomy(v reflect.Value) reflect.Value {
	out := reflect.New(v.Type()).Elem()
	switch v.Kind() {
	case reflect.Struct:
		for i := range v.NumField() {
			out.Field(i).Set(roomy(v.Field(i)))
		}
	case reflect.Slice:
		out.Set(reflect.MakeSlice(v.Type(), v.Len(), v.Len()+2))
		for i := range v.Len() {
			out.Index(i).Set(roomy(v.Index(i)))
		}
	default:
		out.Set(v)
	}
	return out
}

// whole is a copy whose lists have their spare room in them.
func whole(v reflect.Value) reflect.Value {
	out := reflect.New(v.Type()).Elem()
	switch v.Kind() {
	case reflect.Struct:
		for i := range v.NumField() {
			out.Field(i).Set(whole(v.Field(i)))
		}
	case reflect.Slice:
		all := v.Slice(0, v.Cap())
		for i := range all.Len() {
			out.Set(reflect.Append(out, whole(all.Index(i))))
		}
	default:
		out.Set(v)
	}
	return out
}

// TestP903Fields: what a form does not have is not looked at.
func TestP903Fields(t *testing.T) {
	for _, text := range []string{"x", "1i8", "cast(i8, tick(2, 0))", "x + 1i8", "if b then x else y", "0i8 -> pre y", "@pre x", "0i8 fby y", "0i8 fby @pre y", "merge(c, u, 1i8)", "neg(x)", "neg(@pre x)", "0i8 -> reset(neg(x), @pre b)", "[x, y][1]", "rep(x, 2)[0]", "map(neg, xs)[0]", "fold(add, x, xs)", "fold(add, x, @pre xs)"} {
		text, at, want := marked(around + text + "; tel")
		p := taken(t, text)
		n := &p.Nodes[len(p.Nodes)-1]
		spoil(&n.Items[2].E)
		if got, e := Check(p); got != at || e != want {
			t.Errorf("%s: error %d at %d, not %d at %d", text, e, got, want, at)
		}
	}
	p := taken(t, "node f(x: i8; c: bool) returns (y: i8) let automaton state A do y = x; end tel")
	p.Nodes[0].Items[0].Names, p.Nodes[0].Items[0].E = []string{"y"}, api.Exp{Form: api.EPre, Kids: []api.Exp{{Form: api.EVar, Name: "x"}}}
	if at, e := Check(p); at != 0 || e != api.OK {
		t.Errorf("error %d at %d", e, at)
	}
}

// spoil writes into the fields that a form does not have.
func spoil(e *api.Exp) {
	for i := range e.Kids {
		spoil(&e.Kids[i])
	}
	late := api.Exp{Form: api.EPre, Kids: []api.Exp{{Form: api.EVar, Name: "x"}}, At: 5}
	switch e.Form {
	case api.ELit, api.EVar, api.ETick:
		e.Kids = []api.Exp{late, {Form: api.EPre, Kids: []api.Exp{late}, At: 6}}
	}
	e.Name, e.Sub, e.N, e.M, e.T = "u", -7, -7, -7, api.Type{Kind: -7, Len: -7}
}

// TestP903Wrong: programs that Parse can't answer.
func TestP903Wrong(t *testing.T) {
	forms := []int{math.MinInt, -1, 20, 99, math.MaxInt}
	for form := range api.EFold + 1 {
		forms = append(forms, form)
	}
	for _, form := range forms {
		for _, inner := range forms {
			for kids := range 5 {
				kid := []api.Exp{{Form: inner}, {}, {Form: api.EPre, At: -2}, {Form: inner, Kids: []api.Exp{{Form: api.EPre, At: math.MinInt}}}}
				e := api.Exp{Form: form, Kids: kid[4-kids:], At: -3}
				state := api.State{Unless: []api.Trans{{Cond: e}}, Items: []api.Item{{E: e}, {}}, Until: []api.Trans{{}, {Cond: e}}}
				for _, items := range [][]api.Item{{{E: e}}, {{States: []api.State{state, {}}}}, {{States: []api.State{{}, state}, E: e}, {E: e}}} {
					p := api.Program{Nodes: []api.Node{{}, {Items: items}}}
					if at, what := Check(p); what != api.OK && what != api.ErrFirst || what == api.OK && at != 0 {
						t.Errorf("%+v: error %d at %d", e, what, at)
					}
				}
			}
		}
	}
}

// TestP903Deep: a call ends, however deep the parts are within one another.
func TestP903Deep(t *testing.T) {
	const deep = 1<<16 - 10
	for form := -1; form <= api.EFold+1; form++ {
		for _, leaf := range []int{api.EVar, api.EPre} {
			e := api.Exp{Form: leaf, At: 9}
			for range deep {
				e = api.Exp{Form: form, Kids: []api.Exp{e}, At: 8}
			}
			wanted := api.ErrFirst
			if form != api.EPre && leaf == api.EVar || form == api.ELit || form == api.EVar || form == api.ETick {
				wanted = api.OK
			}
			if at, what := Check(api.Program{Nodes: []api.Node{{Items: []api.Item{{Names: []string{"a"}, E: e}}}}}); what != wanted {
				t.Errorf("form %d: error %d at %d", form, what, at)
			}
		}
	}
	for leaf, want := range map[int]api.Errno{api.EVar: api.OK, api.EPre: api.ErrFirst} {
		i := api.Item{Names: []string{"a"}, E: api.Exp{Form: leaf, At: 0}}
		for range deep {
			i = api.Item{States: []api.State{{Name: "S", Items: []api.Item{i}}}, At: 8}
		}
		if at, e := Check(api.Program{Nodes: []api.Node{{Items: []api.Item{i}}}}); at != 0 || e != want {
			t.Errorf("error %d at %d", e, at)
		}
	}
}
