package arrays_test

import (
	"math"
	"math/rand"
	"reflect"
	"slices"
	"testing"

	"metronome/api"
	"metronome/arrays"
	"metronome/gram"
	"metronome/names"
	"metronome/show"
	asked "metronome/types"
)

// TestP703Wild: what is answered is taken by names and types, though clocks, first values and cycles are wrong; and it can be told as a text.
func TestP703Wild(t *testing.T) {
	for seed := range 1000 {
		m := &maker{r: rand.New(rand.NewSource(int64(seed))), wild: true}
		text := show.Print(m.program())
		q := expanded(t, text, parsed(t, text))
		again, _, e := gram.Parse(show.Print(q))
		if e != api.ErrLong && (e != api.OK || show.Print(again) != show.Print(q)) {
			t.Fatalf("%s\nhas become\n%s: error %d", text, show.Print(q), e)
		}
	}
}

// TestP703Kept: what is handed in stays as it is, its spare room too, and becomes the same again.
func TestP703Kept(t *testing.T) {
	for seed := range 100 {
		m := &maker{r: rand.New(rand.NewSource(int64(seed))), wild: seed%2 == 0}
		p := roomy(reflect.ValueOf(m.program())).Interface().(api.Program)
		before := whole(reflect.ValueOf(p)).Interface()
		q := expanded(t, "", p)
		want := whole(reflect.ValueOf(q)).Interface()
		if after := whole(reflect.ValueOf(p)).Interface(); !reflect.DeepEqual(after, before) {
			t.Fatalf("%+v, no longer %+v", after, before)
		}
		scribble(reflect.ValueOf(&p).Elem())
		if after := whole(reflect.ValueOf(q)).Interface(); !reflect.DeepEqual(after, want) {
			t.Fatalf("%+v, no longer %+v", after, want)
		}
		scribble(reflect.ValueOf(&q).Elem())
		if again := expanded(t, "", before.(api.Program)); !reflect.DeepEqual(whole(reflect.ValueOf(again)).Interface(), want) {
			t.Fatalf("%+v, then %+v", want, again)
		}
	}
}

// roomy is a copy whose lists have spare room.
func roomy(v reflect.Value) reflect.Value {
	out := reflect.New(v.Type()).Elem()
	switch v.Kind() {
	case reflect.Struct:
		for i := range v.NumField() {
			out.Field(i).Set(roomy(v.Field(i)))
		}
	case reflect.Slice:
		out.Set(reflect.MakeSlice(v.Type(), v.Len(), v.Len()+2))
		for i := range v.Len() {
			out.Index(i).Set(roomy(v.Index(i)))
		}
	default:
		out.Set(v)
	}
	return out
}

// whole is a copy.
func whole(v reflect.Value) reflect.Value {
	out := reflect.New(v.Type()).Elem()
	switch v.Kind() {
	case reflect.Struct:
		for i := range v.NumField() {
			out.Field(i).Set(whole(v.Field(i)))
		}
	case reflect.Slice:
		for i := range v.Len() {
			out.Set(reflect.Append(out, whole(v.Index(i))))
		}
	default:
		out.Set(v)
	}
	return out
}

// scribble writes over all that is there, in spare room, too.
func scribble(v reflect.Value) {
	switch v.Kind() {
	case reflect.Struct:
		for i := range v.NumField() {
			scribble(v.Field(i))
		}
	case reflect.Slice:
		all := v.Slice(0, v.Cap())
		for i := range all.Len() {
			scribble(all.Index(i))
		}
	case reflect.Int:
		v.SetInt(77)
	case reflect.String:
		v.SetString("scribbled")
	case reflect.Bool:
		v.SetBool(!v.Bool())
	}
}

// TestP703New: no two lists of an answer share memory.
func TestP703New(t *testing.T) {
	for seed := range 100 {
		m := &maker{r: rand.New(rand.NewSource(int64(seed))), wild: seed%2 == 0}
		q := expanded(t, "", m.program())
		var rooms [][2]uintptr
		lists(reflect.ValueOf(q), func(v reflect.Value) {
			rooms = append(rooms, [2]uintptr{v.Pointer(), v.Pointer() + uintptr(v.Cap())*v.Type().Elem().Size()})
		})
		slices.SortFunc(rooms, func(a, b [2]uintptr) int { return int(a[0]) - int(b[0]) })
		for i := 1; i < len(rooms); i++ {
			if rooms[i][0] < rooms[i-1][1] {
				t.Fatalf("%s", show.Print(q))
			}
		}
	}
}

func lists(v reflect.Value, tell func(reflect.Value)) {
	switch v.Kind() {
	case reflect.Struct:
		for i := range v.NumField() {
			lists(v.Field(i), tell)
		}
	case reflect.Slice:
		if v.Cap() > 0 {
			tell(v)
		}
		for i := range v.Len() {
			lists(v.Index(i), tell)
		}
	}
}

// TestP703Fields: what a form does not have is not looked at, and is zero in the answer.
func TestP703Fields(t *testing.T) {
	for seed := range 200 {
		m := &maker{r: rand.New(rand.NewSource(int64(seed)))}
		p := parsed(t, show.Print(m.program()))
		want := expanded(t, "", p)
		for i := range p.Nodes {
			n := &p.Nodes[i]
			for _, list := range [][]api.Var{n.Ins, n.Outs} {
				for k := range list {
					list[k].Clock = []api.Edge{{Name: n.Ins[0].Name, On: true}}
				}
			}
			junkItems(n.Items)
		}
		before := whole(reflect.ValueOf(p)).Interface()
		if got := expanded(t, "", p); !reflect.DeepEqual(got, want) || !reflect.DeepEqual(p, before) {
			t.Fatalf("%+v, not %+v", got, want)
		}
	}
}

func junkItems(items []api.Item) {
	for i := range items {
		junkExp(&items[i].E)
		if len(items[i].States) > 0 {
			items[i].Names, items[i].E = []string{"q"}, api.Exp{Form: 77, Name: "q"}
		}
		for _, s := range items[i].States {
			junkItems(s.Items)
			for k := range s.Unless {
				junkExp(&s.Unless[k].Cond)
			}
			for k := range s.Until {
				junkExp(&s.Until[k].Cond)
			}
		}
	}
}

func junkExp(e *api.Exp) {
	for i := range e.Kids {
		junkExp(&e.Kids[i])
	}
	has := func(forms ...int) bool { return slices.Contains(forms, e.Form) }
	if !has(api.EVar, api.EWhen, api.EMerge, api.ECall, api.EReset, api.EMap, api.EFold) {
		e.Name = "junk"
	}
	if !has(api.ELit, api.ECast) {
		e.T = array(77, 77)
	}
	if has(api.ELit, api.EVar, api.ETick) {
		e.Kids = []api.Exp{{Form: 77, Name: "junk"}}
	}
	if !has(api.ETick) {
		e.M = -5
	}
	if !has(api.ELit, api.EWhen, api.ETick, api.EIndex, api.ERep) {
		e.N = -5
	}
	if !has(api.EUn, api.EBin) {
		e.Sub = -5
	}
}

// TestP703Refused: a program that names or types don't take is none that can be taken apart: what they say is told.
func TestP703Refused(t *testing.T) {
	for text, want := range map[string]api.Errno{
		"node f(a: i8^2) returns (y: i8) let y = q; tel": api.ErrName, "node f(a: i8^2) returns (y: i8) let y = q(a); tel": api.ErrName, "node f(a, a: i8^2) returns (y: i8) let y = a[0]; tel": api.ErrTwice,
		"node f(a: i8^2) returns (y, z: i8) let y = a[0]; tel": api.ErrMissing, "node f(a: i8^2) returns (y: i8) let y = a; tel": api.ErrType, "node f(a: i8^2) returns (y: i8) let y = a[2]; tel": api.ErrCount,
		"node f(a: i8^17) returns (y: i8) let y = a[0]; tel": api.ErrCount, "node f(a: i8^2) returns (b: i8^3) let b = a; tel": api.ErrType, "node f(a: i8^2; c: bool) returns (y: i8) let automaton state A unless tick(2, 1) then A; do y = a[0]; end tel": api.ErrCond,
		"node f(a: i8^2; a__0: i8) returns (y: i8) let y = a + 1i8; tel": api.ErrType,
	} {
		p, _, e := gram.Parse(text)
		if e != api.OK {
			t.Fatal(text)
		}
		if q, e := arrays.Expand(p); e != want || q.Nodes != nil {
			t.Errorf("%s: error %d, %+v", text, e, q)
		}
	}
	for _, p := range []api.Program{{}, {Nodes: []api.Node{}}} {
		if q, e := arrays.Expand(p); e != api.OK || len(q.Nodes) > 0 {
			t.Errorf("error %d, %+v", e, q)
		}
	}
}

// TestP703Wrong: programs that Parse can't answer: a call ends.
func TestP703Wrong(t *testing.T) {
	numbers := []int{math.MinInt, -1, 0, 1, 2, 16, 17, math.MaxInt}
	forms := []int{math.MinInt, -1, 20, 99, math.MaxInt}
	for form := range api.EFold + 1 {
		forms = append(forms, form)
	}
	count := 0
	for _, size := range numbers {
		for _, form := range forms {
			for kids := range 4 {
				for i := range 8 * 8 * 8 {
					count += wrong(t, size, form, kids, numbers[i%8], numbers[i/8%8], i/64)
				}
			}
		}
	}
	if count < 1000 {
		t.Errorf("%d programs were taken", count)
	}
	for _, n := range []api.Node{
		{}, {Name: "\x00\xff"}, {Items: []api.Item{{}}}, {Items: []api.Item{{Names: []string{""}}}}, {Locals: []api.Var{{Clock: []api.Edge{{}}}}}, {Outs: []api.Var{{Name: "y", T: kind(api.I8)}}, Items: []api.Item{{Names: []string{"y", "y"}}}},
		{Items: []api.Item{{States: []api.State{{}}}}}, {Items: []api.Item{{States: []api.State{{Locals: []api.Var{{}, {}}}}}}}, {At: math.MinInt, Ins: []api.Var{{At: -1, T: api.Type{Len: math.MaxInt}}}},
		{Items: []api.Item{{States: []api.State{{}, {}}}, {States: []api.State{{Name: "A"}, {Name: "B", Until: []api.Trans{{To: "A", Cond: api.Exp{Form: api.ELit, T: kind(api.Bool)}}}}}}}},
	} {
		arrays.Expand(api.Program{Nodes: []api.Node{n}})
		arrays.Expand(api.Program{Nodes: []api.Node{n, n}})
	}
}

// wrong asks for a program with one odd expression; it answers 1, if that was taken.
func wrong(t *testing.T, size, form, kids, n, length, i int) int {
	vars := func(names ...string) (all []api.Var) {
		for _, name := range names {
			all = append(all, api.Var{Name: name, T: array(api.Bool, size)})
		}
		return all
	}
	value := api.Exp{Form: api.EVar, Name: "a"}
	if i%2 == 1 {
		value = api.Exp{Form: api.ELit, T: array(api.Bool, length)}
	}
	e := api.Exp{Form: form, Name: []string{"a", "g", "h", "c"}[i/2], Sub: api.OpNot, N: n, M: n, T: array(api.Bool, length), Kids: slices.Repeat([]api.Exp{value}, kids), At: -3}
	of := func(name string) []api.Item {
		return []api.Item{{Names: []string{name}, E: api.Exp{Form: api.EVar, Name: "a"}}}
	}
	p := api.Program{Nodes: []api.Node{
		{Name: "g", Ins: vars("a"), Outs: vars("b"), Items: of("b")},
		{Name: "h", Ins: vars("a", "x"), Outs: vars("b"), Items: of("b")},
		{Name: "c", Ins: vars("a")},
		{Name: "f", Ins: vars("a", "b"), Outs: []api.Var{{Name: "y", T: array(api.Bool, length)}}, Items: []api.Item{{Names: []string{"y"}, E: e}}},
	}}
	q, what := arrays.Expand(p)
	if what != api.OK {
		if q.Nodes != nil {
			t.Errorf("%+v: error %d, %+v", e, what, q)
		}
		return 0
	}
	if at, what := names.Check(q); what != api.OK {
		t.Errorf("%+v: error %d at %d of the answer", e, what, at)
	}
	return 1
}

// TestP703Deep: a call ends, however deep the parts are within one another.
func TestP703Deep(t *testing.T) {
	const deep = 1<<16 - 10
	ins, outs := []api.Var{{Name: "a", T: array(api.I8, 2)}, {Name: "c", T: kind(api.Bool)}, {Name: "n", T: kind(api.I8)}}, []api.Var{{Name: "b", T: array(api.I8, 2)}}
	a, c, n := api.Exp{Form: api.EVar, Name: "a"}, api.Exp{Form: api.EVar, Name: "c"}, api.Exp{Form: api.EVar, Name: "n"}
	nodes := []api.Node{
		{Name: "g", Ins: ins[:1], Outs: outs, Items: []api.Item{{Names: []string{"b"}, E: a}}},
		{Name: "h", Ins: []api.Var{{Name: "i", T: kind(api.I8)}, {Name: "j", T: kind(api.I8)}}, Outs: []api.Var{{Name: "k", T: kind(api.I8)}}, Items: []api.Item{{Names: []string{"k"}, E: api.Exp{Form: api.EVar, Name: "i"}}}},
	}
	for _, around := range []func(e api.Exp) api.Exp{
		func(e api.Exp) api.Exp { return api.Exp{Form: api.EIf, Kids: []api.Exp{c, e, a}} },
		func(e api.Exp) api.Exp { return api.Exp{Form: api.EPre, Kids: []api.Exp{e}} },
		func(e api.Exp) api.Exp { return api.Exp{Form: api.EFby, Kids: []api.Exp{a, e}} },
		func(e api.Exp) api.Exp { return api.Exp{Form: api.EArrow, Kids: []api.Exp{e, a}} },
		func(e api.Exp) api.Exp { return api.Exp{Form: api.EWhen, Name: "c", N: 1, Kids: []api.Exp{e}} },
		func(e api.Exp) api.Exp { return api.Exp{Form: api.EMerge, Name: "c", Kids: []api.Exp{a, e}} },
		func(e api.Exp) api.Exp { return api.Exp{Form: api.ECall, Name: "g", Kids: []api.Exp{e}} },
		func(e api.Exp) api.Exp { return api.Exp{Form: api.EReset, Name: "g", Kids: []api.Exp{e, c}} },
		func(e api.Exp) api.Exp { return api.Exp{Form: api.EMap, Name: "h", Kids: []api.Exp{e, a}} },
		func(e api.Exp) api.Exp {
			return api.Exp{Form: api.ERep, N: 2, Kids: []api.Exp{{Form: api.EIndex, N: 1, Kids: []api.Exp{e}}}}
		},
		func(e api.Exp) api.Exp {
			return api.Exp{Form: api.EArr, Kids: []api.Exp{n, {Form: api.EIndex, N: 1, Kids: []api.Exp{e}}}}
		},
		func(e api.Exp) api.Exp {
			return api.Exp{Form: api.ERep, N: 2, Kids: []api.Exp{{Form: api.EFold, Name: "h", Kids: []api.Exp{n, e}}}}
		},
		func(e api.Exp) api.Exp {
			return api.Exp{Form: api.EIf, Kids: []api.Exp{{Form: api.EBin, Sub: api.OpLt, Kids: []api.Exp{n, {Form: api.EIndex, Kids: []api.Exp{e}}}}, a, a}}
		},
	} {
		e := a
		for range deep / 3 {
			e = around(e)
		}
		p := api.Program{Nodes: append(slices.Clone(nodes), api.Node{Name: "f", Ins: ins, Outs: outs, Items: []api.Item{{Names: []string{"b"}, E: e}}})}
		if q, what := arrays.Expand(p); what != api.OK || len(q.Nodes) != 3 || len(q.Nodes[2].Items) < 1 {
			t.Errorf("form %d: error %d", e.Form, what)
		} else if at, what := asked.Check(q); what != api.OK {
			t.Errorf("form %d: error %d at %d of the answer", e.Form, what, at)
		}
	}
	i := api.Item{Names: []string{"b"}, E: a}
	for range deep {
		i = api.Item{States: []api.State{{Name: "S", Items: []api.Item{i}}}}
	}
	if q, what := arrays.Expand(api.Program{Nodes: []api.Node{{Name: "f", Ins: ins, Outs: outs, Items: []api.Item{i}}}}); what != api.OK || len(q.Nodes) != 1 {
		t.Errorf("states: error %d", what)
	}
}
