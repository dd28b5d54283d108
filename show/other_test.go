package show

import (
	"math"
	"math/rand"
	"reflect"
	"slices"
	"strings"
	"testing"

	"metronome/api"
)

// withoutAt is a copy of a program whose places are 0 and whose empty lists are nil.
func withoutAt(p api.Program) api.Program {
	return clean(reflect.ValueOf(p)).Interface().(api.Program)
}

func clean(v reflect.Value) reflect.Value {
	out := reflect.New(v.Type()).Elem()
	switch v.Kind() {
	case reflect.Struct:
		for i := range v.NumField() {
			if v.Type().Field(i).Name != "At" {
				out.Field(i).Set(clean(v.Field(i)))
			}
		}
	case reflect.Slice:
		for i := range v.Len() {
			out.Set(reflect.Append(out, clean(v.Index(i))))
		}
	default:
		out.Set(v)
	}
	return out
}

// dirty fills the fields that a form does not have, and the places.
func dirty(e api.Exp) api.Exp {
	junk := []api.Exp{{Form: 77}, {Form: api.EVar, Name: "junk"}}
	if !slices.Contains([]int{api.EVar, api.EWhen, api.EMerge, api.ECall, api.EReset, api.EMap, api.EFold}, e.Form) {
		e.Name = "junk"
	}
	if e.Form != api.EUn && e.Form != api.EBin {
		e.Sub = 5
	}
	if e.Form != api.ELit && e.Form != api.ECast {
		e.T.Kind = 4
	}
	if !slices.Contains([]int{api.ELit, api.EWhen, api.ETick, api.EIndex, api.ERep}, e.Form) {
		e.N = -8
	}
	if e.Form != api.ETick {
		e.M = -9
	}
	e.T.Len, e.At = 7, -5
	var kids []api.Exp
	for _, k := range e.Kids {
		kids = append(kids, dirty(k))
	}
	e.Kids = kids
	if e.Form == api.ELit || e.Form == api.EVar || e.Form == api.ETick {
		e.Kids = junk
	}
	return e
}

// TestP401Fields: what a form does not have is not looked at.
func TestP401Fields(t *testing.T) {
	m := maker{rand.New(rand.NewSource(7))}
	for n := range 5000 {
		e := m.exp(n % 5)
		if got, want := Exp(dirty(e)), Exp(e); got != want {
			t.Fatalf("%q, not %q", got, want)
		}
	}
	automaton := api.Item{States: []api.State{{Name: "S"}}}
	other := automaton
	other.Names, other.E, other.At = nil, dirty(name("a")), 9
	if a, b := Print(withItems(automaton)), Print(withItems(other)); a != b {
		t.Errorf("%q, not %q", b, a)
	}
}

func withItems(items ...api.Item) api.Program {
	return api.Program{Nodes: []api.Node{{Name: "f", Items: items}}}
}

// TestP404Kept: what is handed in stays as it is, its spare room too.
func TestP404Kept(t *testing.T) {
	m := maker{rand.New(rand.NewSource(8))}
	for range 300 {
		p := roomy(reflect.ValueOf(m.program(3))).Interface().(api.Program)
		before := clean(whole(reflect.ValueOf(p)))
		text := Print(p)
		for _, n := range p.Nodes {
			for _, i := range n.Items {
				Exp(i.E)
			}
		}
		if after := clean(whole(reflect.ValueOf(p))); !reflect.DeepEqual(after.Interface(), before.Interface()) {
			t.Fatalf("%+v, no longer %+v", after, before)
		}
		if again := Print(p); again != text {
			t.Fatalf("%s\nagain\n%s", text, again)
		}
	}
}

// roomy is a copy whose lists have spare room.
func roomy(v reflect.Value) reflect.Value {
	out := reflect.New(v.Type()).Elem()
	switch v.Kind() {
	case reflect.Struct:
		for i := range v.NumField() {
			out.Field(i).Set(roomy(v.Field(i)))
		}
	case reflect.Slice:
		out.Set(reflect.MakeSlice(v.Type(), v.Len(), v.Len()+2))
		for i := range v.Len() {
			out.Index(i).Set(roomy(v.Index(i)))
		}
	default:
		out.Set(v)
	}
	return out
}

// whole is a copy whose lists have their spare room in them.
func whole(v reflect.Value) reflect.Value {
	out := reflect.New(v.Type()).Elem()
	switch v.Kind() {
	case reflect.Struct:
		for i := range v.NumField() {
			out.Field(i).Set(whole(v.Field(i)))
		}
	case reflect.Slice:
		all := v.Slice(0, v.Cap())
		for i := range all.Len() {
			out.Set(reflect.Append(out, whole(all.Index(i))))
		}
	default:
		out.Set(v)
	}
	return out
}

// TestP404Wrong: forms, operations, kinds and numbers that are none, and too few or too many kids.
func TestP404Wrong(t *testing.T) {
	numbers := []int{math.MinInt, -1, 0, 1, 2, 3, 9, 10, 19, 20, 99, math.MaxInt}
	a := name("a")
	for form := -2; form <= api.EFold+2; form++ {
		for _, n := range numbers {
			for kids := range 4 {
				e := api.Exp{Form: form, Sub: n, T: api.Type{Kind: n, Len: n}, N: n, M: n, Kids: slices.Repeat([]api.Exp{a}, kids)}
				if s := Exp(e); s == "" && form != api.EVar || strings.Contains(s, "\n") {
					t.Errorf("%+v: %q", e, s)
				}
				Print(withItems(api.Item{E: e}))
			}
		}
	}
	for _, n := range numbers {
		Exp(api.Exp{Form: n})
		v := []api.Var{{T: api.Type{Kind: n, Len: n}, Clock: []api.Edge{{}}}}
		Print(api.Program{Nodes: []api.Node{{Ins: v, Outs: v, Locals: v, Items: []api.Item{{}}}}})
	}
	Print(api.Program{Nodes: []api.Node{{}, {Name: "\x00\n\xff"}}})
	Print(withItems(api.Item{Names: []string{"a"}, E: a, States: []api.State{{}, {Unless: []api.Trans{{}}, Until: []api.Trans{{}}}}}))
}

// TestP404Deep: a call ends, however deep the parts are within one another.
func TestP404Deep(t *testing.T) {
	const deep = 1<<16 - 10
	for form := -1; form <= api.EFold+1; form++ {
		e := name("a")
		for range deep {
			e = api.Exp{Form: form, Name: "f", Kids: []api.Exp{e}}
		}
		if s := Exp(e); form == api.EPre && s != strings.Repeat("(pre ", deep)+"a"+strings.Repeat(")", deep) {
			t.Error("another text")
		}
	}
	i := api.Item{Names: []string{"a"}, E: name("a")}
	for range deep {
		i = api.Item{States: []api.State{{Name: "S", Items: []api.Item{i}}}}
	}
	if s := Print(withItems(i)); strings.Count(s, "automaton") != deep {
		t.Error("another text")
	}
}
