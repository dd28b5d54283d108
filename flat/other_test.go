package flat_test

import (
	"math"
	"math/rand"
	"reflect"
	"slices"
	"strconv"
	"testing"

	"metronome/api"
	"metronome/core"
	"metronome/flat"
	"metronome/show"
)

// lightMade is a made program, one of its nodes, and ticks of that.
func lightMade(seed, count int) (api.Program, api.Node, [][]int) {
	m := &maker{r: rand.New(rand.NewSource(int64(seed)))}
	p := m.program()
	n := p.Nodes[m.given]
	return p, n, m.ticks(n, count)
}

// TestP1202Kept: what is handed in stays as it is, its spare room too; what is answered stays when that is written over, and is answered again.
func TestP1202Kept(t *testing.T) {
	for seed := range 200 {
		given, n, _ := lightMade(seed, 0)
		p := roomy(reflect.ValueOf(given)).Interface().(api.Program)
		ahead := whole(reflect.ValueOf(p), true)
		c := made(t, p, n.Name)
		want := whole(reflect.ValueOf(c), false).Interface().(api.Core)
		if after := whole(reflect.ValueOf(p), true); !reflect.DeepEqual(after.Interface(), ahead.Interface()) {
			t.Fatalf("%+v, no longer %+v", after, ahead)
		}
		if again := made(t, p, n.Name); !reflect.DeepEqual(again, want) {
			t.Fatalf("%+v, then %+v", want, again)
		}
		scribble(reflect.ValueOf(&p).Elem())
		if !reflect.DeepEqual(c, want) {
			t.Fatalf("%+v, no longer %+v", c, want)
		}
		scribble(reflect.ValueOf(&c).Elem())
		if again := made(t, given, n.Name); !reflect.DeepEqual(again, want) {
			t.Fatalf("%+v, then %+v", want, again)
		}
	}
}

// TestP1202New: no two lists of an answer share memory, not even spare room; nor do they with what is handed in.
func TestP1202New(t *testing.T) {
	for seed := range 200 {
		p, n, _ := lightMade(seed, 0)
		c := made(t, p, n.Name)
		var rooms [][2]uintptr
		lists(reflect.ValueOf(c), &rooms)
		lists(reflect.ValueOf(p), &rooms)
		slices.SortFunc(rooms, func(a, b [2]uintptr) int { return int(a[0]) - int(b[0]) })
		mine := [][2]uintptr{}
		lists(reflect.ValueOf(c), &mine)
		for i := 1; i < len(rooms); i++ {
			if rooms[i][0] < rooms[i-1][1] && (slices.Contains(mine, rooms[i]) || slices.Contains(mine, rooms[i-1])) {
				t.Fatalf("%s\n%+v", show.Print(p), c)
			}
		}
	}
}

// lists are where the lists of a value stand.
func lists(v reflect.Value, rooms *[][2]uintptr) {
	switch v.Kind() {
	case reflect.Struct:
		for i := range v.NumField() {
			lists(v.Field(i), rooms)
		}
	case reflect.Slice:
		if v.Cap() > 0 {
			at := v.Pointer()
			*rooms = append(*rooms, [2]uintptr{at, at + uintptr(v.Cap())*v.Type().Elem().Size()})
		}
		for i := range v.Len() {
			lists(v.Index(i), rooms)
		}
	}
}

// TestP1202Alone: what is answered hangs neither on nodes that the node does not call, nor on calls ahead.
func TestP1202Alone(t *testing.T) {
	for seed := range 100 {
		p, n, _ := lightMade(seed, 0)
		want := made(t, p, n.Name)
		more, _, _ := lightMade(seed+1000, 0)
		flat.Make(more, "f0")
		q := api.Program{Nodes: slices.Clone(p.Nodes)}
		q.Nodes = append(q.Nodes, api.Node{Name: "later", Items: []api.Item{{Names: []string{"nobody"}}}})
		if again := made(t, q, n.Name); !reflect.DeepEqual(again, want) {
			t.Fatalf("%+v, then %+v", want, again)
		}
	}
}

// roomy is a copy whose lists have spare room.
func roomy(v reflect.Value) reflect.Value {
	out := reflect.New(v.Type()).Elem()
	switch v.Kind() {
	case reflect.Struct:
		for i := range v.NumField() {
			out.Field(i).Set(roomy(v.Field(i)))
		}
	case reflect.Slice:
		out.Set(reflect.MakeSlice(v.Type(), v.Len(), v.Len()+2))
		for i := range v.Len() {
			out.Index(i).Set(roomy(v.Index(i)))
		}
	default:
		out.Set(v)
	}
	return out
}

// whole is a copy; its lists may have the spare room in them.
func whole(v reflect.Value, room bool) reflect.Value {
	out := reflect.New(v.Type()).Elem()
	switch v.Kind() {
	case reflect.Struct:
		for i := range v.NumField() {
			out.Field(i).Set(whole(v.Field(i), room))
		}
	case reflect.Slice:
		all := v
		if room {
			all = v.Slice(0, v.Cap())
		}
		for i := range all.Len() {
			out.Set(reflect.Append(out, whole(all.Index(i), room)))
		}
	default:
		out.Set(v)
	}
	return out
}

// scribble writes over all that is there, in spare room, too.
func scribble(v reflect.Value) {
	switch v.Kind() {
	case reflect.Struct:
		for i := range v.NumField() {
			scribble(v.Field(i))
		}
	case reflect.Slice:
		all := v.Slice(0, v.Cap())
		for i := range all.Len() {
			scribble(all.Index(i))
		}
	case reflect.Int:
		v.SetInt(77)
	case reflect.String:
		v.SetString("scribbled")
	case reflect.Bool:
		v.SetBool(!v.Bool())
	}
}

// TestP1201Zero: fields that a form does not have are zero.
func TestP1201Zero(t *testing.T) {
	for seed := range 300 {
		p, n, _ := lightMade(seed, 0)
		c := made(t, p, n.Name)
		for _, q := range c.Eqs {
			if q.Form != api.CDef && !reflect.DeepEqual(q.E, api.CExp{}) || q.Form != api.CMem && (q.Init != 0 || q.Next != "" || q.Reset != "") || q.Form != api.CTick && (q.Period != 0 || q.Offset != 0) {
				t.Fatalf("%+v", q)
			}
			zeroes(t, q.E)
		}
	}
}

func zeroes(t *testing.T, e api.CExp) {
	t.Helper()
	has := func(forms ...int) bool { return slices.Contains(forms, e.Form) }
	if e.Name != "" && !has(api.EVar, api.EWhen, api.EMerge) || e.Sub != 0 && !has(api.EUn, api.EBin) || e.Kind != 0 && !has(api.ELit, api.ECast) || e.N != 0 && !has(api.ELit, api.EWhen) {
		t.Fatalf("%+v", e)
	}
	for _, k := range e.Kids {
		zeroes(t, k)
	}
}

// TestP1201Fields: what a form does not have is not looked at; nor are the clocks of inputs and outputs, or places.
func TestP1201Fields(t *testing.T) {
	for seed := range 200 {
		p, n, _ := lightMade(seed, 0)
		want := made(t, p, n.Name)
		p = whole(reflect.ValueOf(p), false).Interface().(api.Program)
		for i := range p.Nodes {
			n := &p.Nodes[i]
			n.At = -7
			for _, list := range [][]api.Var{n.Ins, n.Outs} {
				for k := range list {
					list[k].Clock, list[k].At = []api.Edge{{Name: "nobody", On: true}, {Name: list[k].Name}}, -7
				}
			}
			junkItems(n.Items)
		}
		if got, e := flat.Make(p, n.Name); e != api.OK || !reflect.DeepEqual(got, want) {
			t.Fatalf("error %d, %+v, not %+v", e, got, want)
		}
	}
}

func junkItems(items []api.Item) {
	for i := range items {
		items[i].At = -7
		junkExp(&items[i].E)
		if len(items[i].States) > 0 {
			items[i].Names, items[i].E = []string{"nobody"}, api.Exp{Form: 77, Name: "nobody"}
		}
		for _, s := range items[i].States {
			junkItems(s.Items)
			for _, list := range [][]api.Trans{s.Unless, s.Until} {
				for k := range list {
					junkExp(&list[k].Cond)
				}
			}
		}
	}
}

func junkExp(e *api.Exp) {
	for i := range e.Kids {
		junkExp(&e.Kids[i])
	}
	has := func(forms ...int) bool { return slices.Contains(forms, e.Form) }
	e.At = -7
	if !has(api.EVar, api.EWhen, api.EMerge, api.ECall, api.EReset, api.EMap, api.EFold) {
		e.Name = "nobody"
	}
	if !has(api.ELit, api.ECast) {
		e.T = array(77, 77)
	}
	if has(api.ELit, api.EVar, api.ETick) {
		e.Kids = []api.Exp{{Form: 77, Name: "nobody"}}
	}
	if !has(api.ETick) {
		e.M = -5
	}
	if !has(api.ELit, api.EWhen, api.ETick, api.EIndex, api.ERep) {
		e.N = -5
	}
	if !has(api.EUn, api.EBin) {
		e.Sub = -5
	}
}

// TestP1201Wrong: of programs that the checks refuse anything may be told, but a call ends, and tells nothing beside an error.
func TestP1201Wrong(t *testing.T) {
	count := map[bool]int{}
	for seed := range 3000 {
		p, n, _ := lightMade(seed%200, 0)
		r := rand.New(rand.NewSource(int64(seed)))
		p = whole(reflect.ValueOf(p), false).Interface().(api.Program)
		for range 1 + r.Intn(3) {
			spoil(r, reflect.ValueOf(&p).Elem())
		}
		c, e := flat.Make(p, n.Name)
		if e != api.OK && !isNothing(c) {
			t.Fatalf("error %d, %+v", e, c)
		}
		count[e == api.OK]++
	}
	if count[true] < 200 || count[false] < 200 {
		t.Error(count)
	}
}

// spoil changes something: a number, a name, a list.
func spoil(r *rand.Rand, v reflect.Value) {
	var spots []reflect.Value
	var walk func(reflect.Value)
	walk = func(v reflect.Value) {
		switch v.Kind() {
		case reflect.Struct:
			for i := range v.NumField() {
				walk(v.Field(i))
			}
		case reflect.Slice:
			spots = append(spots, v)
			for i := range v.Len() {
				walk(v.Index(i))
			}
		default:
			spots = append(spots, v)
		}
	}
	walk(v)
	v = spots[r.Intn(len(spots))]
	switch v.Kind() {
	case reflect.Int:
		v.SetInt([]int64{math.MinInt, -1, 0, 1, 2, 3, 6, 13, 16, 17, 18, 19, 20, 1 << 30, math.MaxInt}[r.Intn(15)])
	case reflect.String:
		v.SetString([]string{"", "f0", "f1", "add", "acc", "x1", "x2", "y2", "l3", "S0", "S1"}[r.Intn(11)])
	case reflect.Bool:
		v.SetBool(!v.Bool())
	case reflect.Slice:
		if v.Len() > 0 && r.Intn(2) == 0 {
			v.Set(v.Slice(0, v.Len()-1))
		} else if v.Len() > 0 {
			v.Set(reflect.Append(v, v.Index(r.Intn(v.Len()))))
		}
	}
}

// TestP1201Refused: some programs that are refused, each in its way.
func TestP1201Refused(t *testing.T) {
	x, y := api.Exp{Form: api.EVar, Name: "x"}, api.Exp{Form: api.EVar, Name: "y"}
	vars := func(n int, names ...string) (all []api.Var) {
		for _, name := range names {
			all = append(all, api.Var{Name: name, T: array(api.I8, n)})
		}
		return all
	}
	node := func(e api.Exp, locals ...api.Var) api.Node {
		return api.Node{Name: "f", Ins: vars(0, "x"), Outs: vars(0, "y"), Locals: locals, Items: []api.Item{{Names: []string{"y"}, E: e}}}
	}
	nested := x
	for range 30 {
		nested = api.Exp{Form: api.ERep, N: 16, Kids: []api.Exp{nested}}
	}
	many := api.Node{Name: "g"}
	for i := range 100000 {
		many.Locals = append(many.Locals, api.Var{Name: strconv.Itoa(i)})
	}
	g := func(args ...api.Exp) api.Exp { return api.Exp{Form: api.ECall, Name: "g", Kids: args} }
	calls := api.Exp{Form: api.EArr, Kids: slices.Repeat([]api.Exp{g()}, 10000)}
	loop := api.Var{Name: "a", Clock: []api.Edge{{Name: "b"}}}
	for i, p := range [][]api.Node{
		{node(y)}, {node(api.Exp{Form: api.ECall, Name: "f", Kids: []api.Exp{x}})}, {node(g(x)), {Name: "g", Ins: vars(0, "x"), Outs: vars(0, "y"), Items: node(api.Exp{Form: api.ECall, Name: "f", Kids: []api.Exp{x}}).Items}},
		{node(api.Exp{})}, {node(api.Exp{Form: api.EMap, Name: "f"})}, {node(api.Exp{Form: api.EReset, Name: "f"})}, {node(api.Exp{Form: api.EArr})}, {node(api.Exp{Form: api.EIndex, N: math.MinInt, Kids: []api.Exp{x}})}, {node(api.Exp{Form: api.ETick})}, {node(api.Exp{Form: api.ERep, N: 1 << 40, Kids: []api.Exp{x}})}, {node(api.Exp{Form: api.ELit, T: array(api.I8, 1<<40)})},
		{node(nested)}, {many, node(calls)}, {{Name: "g", Ins: many.Locals}, node(calls)}, {{Name: "f", Ins: vars(1<<40, "x")}}, {{Name: "f", Ins: vars(0, "x"), Outs: vars(1<<40, "y")}},
		{node(x, api.Var{Name: "z"})}, {node(x, loop, api.Var{Name: "b", Clock: []api.Edge{{Name: "a"}}})}, {{Name: "f", Ins: vars(0, "x"), Items: []api.Item{{States: []api.State{{Until: []api.Trans{{Cond: x, To: "nowhere"}}}}}}}},
		{{Name: "f", Ins: vars(0, "x"), Items: []api.Item{{States: []api.State{{Name: "A", Until: []api.Trans{{To: "A"}}}}}}}}, {{Name: "f", Ins: vars(0, "x"), Outs: vars(0, "y"), Items: []api.Item{{States: []api.State{{Name: "A", Unless: []api.Trans{{Cond: y, To: "A"}}, Items: []api.Item{{Names: []string{"y"}, E: x}}}}}}}},
	} {
		if c, e := flat.Make(api.Program{Nodes: p}, "f"); e != api.OK && !isNothing(c) {
			t.Errorf("%d: error %d, %+v", i, e, c)
		}
	}
	// what Parse can't answer, but the checks take
	if c, e := flat.Make(api.Program{Nodes: []api.Node{{}, {Name: "f", Items: []api.Item{{E: api.Exp{Form: api.ECall}}, {States: []api.State{{}}}}}}}, "f"); e != api.OK || core.Check(c) != api.OK || len(c.Eqs) > 0 {
		t.Errorf("error %d, %+v", e, c)
	}
}

// TestP1201Deep: a call ends, however deep the parts are within one another.
func TestP1201Deep(t *testing.T) {
	const deep = 1<<16 - 10
	x, c := api.Exp{Form: api.EVar, Name: "x"}, api.Exp{Form: api.EVar, Name: "c"}
	ins, outs := []api.Var{{Name: "x", T: kind(api.I8)}, {Name: "c", T: kind(api.Bool)}}, []api.Var{{Name: "y", T: kind(api.I8)}}
	of := func(e api.Exp) api.Node {
		return api.Node{Name: "f", Ins: ins, Outs: outs, Items: []api.Item{{Names: []string{"y"}, E: e}}}
	}
	g := api.Node{Name: "g", Ins: ins[:1], Outs: outs, Items: []api.Item{{Names: []string{"y"}, E: x}}}
	for form, around := range map[int]func(e api.Exp) []api.Exp{
		api.EUn: func(e api.Exp) []api.Exp { return []api.Exp{e} }, api.EBin: func(e api.Exp) []api.Exp { return []api.Exp{x, e} }, api.EIf: func(e api.Exp) []api.Exp { return []api.Exp{c, x, e} },
		api.EArrow: func(e api.Exp) []api.Exp { return []api.Exp{e, x} }, api.EFby: func(e api.Exp) []api.Exp { return []api.Exp{x, e} }, api.ECast: func(e api.Exp) []api.Exp { return []api.Exp{e} },
		api.ECall: func(e api.Exp) []api.Exp { return []api.Exp{e} }, api.EReset: func(e api.Exp) []api.Exp { return []api.Exp{e, c} },
	} {
		for _, count := range []int{900, deep} {
			e := x
			for range count {
				e = api.Exp{Form: form, Sub: api.OpNot, T: kind(api.I8), Name: "g", Kids: around(e)}
				if form == api.EBin {
					e.Sub = api.OpOr
				}
			}
			p := api.Program{Nodes: []api.Node{g, of(e)}}
			if c, e := flat.Make(p, "f"); count == deep && (e != api.ErrLong || !isNothing(c)) {
				t.Errorf("form %d: error %d", form, e)
			} else if count < deep {
				means(t, p, "f", [][]int{{5, 0}, {6, 1}})
			}
		}
	}
	i := api.Item{Names: []string{"y"}, E: api.Exp{Form: api.EFby, Kids: []api.Exp{x, x}}}
	for range deep {
		i = api.Item{States: []api.State{{Name: "S", Items: []api.Item{i}, Until: nil}}}
	}
	i.States[0].Until = []api.Trans{{Cond: c, To: "S"}}
	n := of(x)
	n.Items = []api.Item{i}
	means(t, api.Program{Nodes: []api.Node{n}}, "f", [][]int{{5, 0}, {6, 1}, {7, 0}, {8, 0}})
	var chain []api.Node
	for i := range 6000 {
		e := x
		if i > 0 {
			e = api.Exp{Form: api.EFby, Kids: []api.Exp{x, {Form: api.ECall, Name: "n" + strconv.Itoa(i-1), Kids: []api.Exp{x}}}}
		}
		chain = append(chain, api.Node{Name: "n" + strconv.Itoa(i), Ins: ins[:1], Outs: outs, Items: []api.Item{{Names: []string{"y"}, E: e}}})
	}
	means(t, api.Program{Nodes: chain}, "n900", [][]int{{5}, {6}})
	if c, e := flat.Make(api.Program{Nodes: chain}, "n5999"); e != api.ErrLong || !isNothing(c) {
		t.Errorf("error %d", e)
	}
}
