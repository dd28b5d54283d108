package stream_test

import (
	"cmp"
	"math"
	"math/rand"
	"reflect"
	"slices"
	"strconv"
	"testing"

	"metronome/api"
	"metronome/show"
	"metronome/stream"
)

// lightMade is a made program, one of its nodes, and ticks of that.
func lightMade(seed, count int) (api.Program, api.Node, [][]int) {
	m := &maker{r: rand.New(rand.NewSource(int64(seed)))}
	p := m.program()
	n := p.Nodes[m.given]
	return p, n, m.ticks(n, count)
}

// TestP1102Kept: what is handed in stays as it is, its spare room too; what is answered stays when that is written over, and is answered again.
func TestP1102Kept(t *testing.T) {
	for seed := range 100 {
		made, n, ticks := lightMade(seed, 8)
		p := roomy(reflect.ValueOf(made)).Interface().(api.Program)
		ins := roomy(reflect.ValueOf(ticks)).Interface().([][]int)
		wholeP, wholeIns := whole(reflect.ValueOf(p), true), whole(reflect.ValueOf(ins), true)
		outs := run(t, p, n.Name, ins)
		want := whole(reflect.ValueOf(outs), false).Interface()
		if after := whole(reflect.ValueOf(p), true); !reflect.DeepEqual(after.Interface(), wholeP.Interface()) {
			t.Fatalf("%+v, no longer %+v", after, wholeP)
		}
		if after := whole(reflect.ValueOf(ins), true); !reflect.DeepEqual(after.Interface(), wholeIns.Interface()) {
			t.Fatalf("%+v, no longer %+v", after, wholeIns)
		}
		if again := run(t, p, n.Name, ins); !reflect.DeepEqual(again, want) {
			t.Fatalf("%v, then %v", want, again)
		}
		scribble(reflect.ValueOf(&p).Elem())
		scribble(reflect.ValueOf(&ins).Elem())
		if !reflect.DeepEqual(outs, want) {
			t.Fatalf("%v, no longer %v", outs, want)
		}
		scribble(reflect.ValueOf(&outs).Elem())
		if again := run(t, made, n.Name, ticks); !reflect.DeepEqual(again, want) {
			t.Fatalf("%v, then %v", want, again)
		}
	}
}

// roomy is a copy whose lists have spare room.
func roomy(v reflect.Value) reflect.Value {
	out := reflect.New(v.Type()).Elem()
	switch v.Kind() {
	case reflect.Struct:
		for i := range v.NumField() {
			out.Field(i).Set(roomy(v.Field(i)))
		}
	case reflect.Slice:
		out.Set(reflect.MakeSlice(v.Type(), v.Len(), v.Len()+2))
		for i := range v.Len() {
			out.Index(i).Set(roomy(v.Index(i)))
		}
	default:
		out.Set(v)
	}
	return out
}

// whole is a copy; its lists may have the spare room in them.
func whole(v reflect.Value, room bool) reflect.Value {
	out := reflect.New(v.Type()).Elem()
	switch v.Kind() {
	case reflect.Struct:
		for i := range v.NumField() {
			out.Field(i).Set(whole(v.Field(i), room))
		}
	case reflect.Slice:
		all := v
		if room {
			all = v.Slice(0, v.Cap())
		}
		for i := range all.Len() {
			out.Set(reflect.Append(out, whole(all.Index(i), room)))
		}
	default:
		out.Set(v)
	}
	return out
}

// scribble writes over all that is there, in spare room, too.
func scribble(v reflect.Value) {
	switch v.Kind() {
	case reflect.Struct:
		for i := range v.NumField() {
			scribble(v.Field(i))
		}
	case reflect.Slice:
		all := v.Slice(0, v.Cap())
		for i := range all.Len() {
			scribble(all.Index(i))
		}
	case reflect.Int:
		v.SetInt(77)
	case reflect.String:
		v.SetString("scribbled")
	case reflect.Bool:
		v.SetBool(!v.Bool())
	}
}

// TestP1102New: no two lists of an answer share memory, not even spare room, and none does with what was handed in; even if values stay the same from tick to tick and from output to output.
func TestP1102New(t *testing.T) {
	p := taken(t, "node g(x: i8^2) returns (y, z: i8^2) let y = x; z = [1i8, 2i8] fby z; tel node f(x: i8^2) returns (y, z, w, v: i8^2) let (y, z) = g(x); w = x fby w; v = x; tel node h(x: i8^2) returns (y: i8^2) let y = x; tel")
	for _, node := range []string{"f", "g", "h"} {
		one := []int{1, 2, 3}[:2]
		outs := run(t, p, node, [][]int{one, one, one, one})
		var rooms [][2]uintptr
		for _, l := range append(outs, one) {
			v := reflect.ValueOf(l)
			rooms = append(rooms, [2]uintptr{v.Pointer(), v.Pointer() + uintptr(v.Cap())*v.Type().Elem().Size()})
		}
		slices.SortFunc(rooms, func(a, b [2]uintptr) int { return cmp.Compare(a[0], b[0]) })
		for i := 1; i < len(rooms); i++ {
			if rooms[i][0] < rooms[i-1][1] {
				t.Errorf("%s: %v", node, outs)
			}
		}
	}
}

// TestP1102First: what is answered for the first ticks hangs on these alone.
func TestP1102First(t *testing.T) {
	for seed := range 150 {
		p, n, ticks := lightMade(seed, 9)
		all := run(t, p, n.Name, ticks)
		m := &maker{r: rand.New(rand.NewSource(int64(seed)))}
		for count := range len(ticks) {
			if got := run(t, p, n.Name, ticks[:count]); !same(got, all[:count]) {
				t.Fatalf("%s\n%v, then %v", show.Print(p), all, got)
			}
			other := append(slices.Clone(ticks[:count]), m.ticks(n, 4)...)
			if got := run(t, p, n.Name, other); len(got) != len(other) || !same(got[:count], all[:count]) {
				t.Fatalf("%s\n%v, then %v", show.Print(p), all, got)
			}
		}
	}
}

// TestP1101Fields: what a form does not have is not looked at; nor are the clocks of inputs and outputs, or places.
func TestP1101Fields(t *testing.T) {
	for seed := range 200 {
		p, n, ticks := lightMade(seed, 8)
		want := run(t, p, n.Name, ticks)
		p = whole(reflect.ValueOf(p), false).Interface().(api.Program)
		for i := range p.Nodes {
			n := &p.Nodes[i]
			n.At = -7
			for _, list := range [][]api.Var{n.Ins, n.Outs} {
				for k := range list {
					list[k].Clock, list[k].At = []api.Edge{{Name: "nobody", On: true}, {Name: list[k].Name}}, -7
				}
			}
			junkItems(n.Items)
		}
		if got := run(t, p, n.Name, ticks); !same(got, want) {
			t.Fatalf("%v, not %v", got, want)
		}
	}
}

func junkItems(items []api.Item) {
	for i := range items {
		items[i].At = -7
		junkExp(&items[i].E)
		if len(items[i].States) > 0 {
			items[i].Names, items[i].E = []string{"nobody"}, api.Exp{Form: 77, Name: "nobody"}
		}
		for _, s := range items[i].States {
			junkItems(s.Items)
			for _, list := range [][]api.Trans{s.Unless, s.Until} {
				for k := range list {
					junkExp(&list[k].Cond)
				}
			}
		}
	}
}

func junkExp(e *api.Exp) {
	for i := range e.Kids {
		junkExp(&e.Kids[i])
	}
	has := func(forms ...int) bool { return slices.Contains(forms, e.Form) }
	e.At = -7
	if !has(api.EVar, api.EWhen, api.EMerge, api.ECall, api.EReset, api.EMap, api.EFold) {
		e.Name = "nobody"
	}
	if !has(api.ELit, api.ECast) {
		e.T = array(77, 77)
	}
	if has(api.ELit, api.EVar, api.ETick) {
		e.Kids = []api.Exp{{Form: 77, Name: "nobody"}}
	}
	if !has(api.ETick) {
		e.M = -5
	}
	if !has(api.ELit, api.EWhen, api.ETick, api.EIndex, api.ERep) {
		e.N = -5
	}
	if !has(api.EUn, api.EBin) {
		e.Sub = -5
	}
}

// TestP1101Wrong: of programs that the checks refuse anything may be told, but a call ends, and tells nothing beside an error.
func TestP1101Wrong(t *testing.T) {
	count := map[bool]int{}
	for seed := range 2000 {
		p, n, ticks := lightMade(seed%200, 3)
		r := rand.New(rand.NewSource(int64(seed)))
		p = whole(reflect.ValueOf(p), false).Interface().(api.Program)
		for range 1 + r.Intn(3) {
			spoil(r, reflect.ValueOf(&p).Elem())
		}
		outs, e := stream.Run(p, n.Name, ticks)
		if e != api.OK && outs != nil {
			t.Fatalf("error %d, %v", e, outs)
		}
		count[e == api.OK]++
	}
	if count[true] < 200 || count[false] < 200 {
		t.Error(count)
	}
}

// spoil changes something: a number, a name, a list.
func spoil(r *rand.Rand, v reflect.Value) {
	var spots []reflect.Value
	var walk func(reflect.Value)
	walk = func(v reflect.Value) {
		switch v.Kind() {
		case reflect.Struct:
			for i := range v.NumField() {
				walk(v.Field(i))
			}
		case reflect.Slice:
			spots = append(spots, v)
			for i := range v.Len() {
				walk(v.Index(i))
			}
		default:
			spots = append(spots, v)
		}
	}
	walk(v)
	v = spots[r.Intn(len(spots))]
	switch v.Kind() {
	case reflect.Int:
		v.SetInt([]int64{math.MinInt, -1, 0, 1, 2, 3, 6, 13, 16, 17, 18, 19, 20, 1 << 30, math.MaxInt}[r.Intn(15)])
	case reflect.String:
		v.SetString([]string{"", "f0", "f1", "add", "acc", "x1", "x2", "y2", "l3", "S0", "S1"}[r.Intn(11)])
	case reflect.Bool:
		v.SetBool(!v.Bool())
	case reflect.Slice:
		if v.Len() > 0 && r.Intn(2) == 0 {
			v.Set(v.Slice(0, v.Len()-1))
		} else if v.Len() > 0 {
			v.Set(reflect.Append(v, v.Index(r.Intn(v.Len()))))
		}
	}
}

// TestP1101Refused: some programs that are refused, each in its way.
func TestP1101Refused(t *testing.T) {
	x, y := api.Exp{Form: api.EVar, Name: "x"}, api.Exp{Form: api.EVar, Name: "y"}
	vars := func(n int, names ...string) (all []api.Var) {
		for _, name := range names {
			all = append(all, api.Var{Name: name, T: array(api.I8, n)})
		}
		return all
	}
	node := func(e api.Exp, locals ...api.Var) api.Node {
		return api.Node{Name: "f", Ins: vars(0, "x"), Outs: vars(0, "y"), Locals: locals, Items: []api.Item{{Names: []string{"y"}, E: e}}}
	}
	nested := x
	for range 30 {
		nested = api.Exp{Form: api.ERep, N: 16, Kids: []api.Exp{nested}}
	}
	many := api.Node{Name: "g"}
	for i := range 100000 {
		many.Locals = append(many.Locals, api.Var{Name: strconv.Itoa(i)})
	}
	g := func(args ...api.Exp) api.Exp { return api.Exp{Form: api.ECall, Name: "g", Kids: args} }
	calls := api.Exp{Form: api.EArr, Kids: slices.Repeat([]api.Exp{g()}, 10000)}
	loop := api.Var{Name: "a", Clock: []api.Edge{{Name: "b"}}}
	for i, p := range [][]api.Node{
		{node(y)}, {node(api.Exp{Form: api.ECall, Name: "f", Kids: []api.Exp{x}})}, {node(g(x)), {Name: "g", Ins: vars(0, "x"), Outs: vars(0, "y"), Items: node(api.Exp{Form: api.ECall, Name: "f", Kids: []api.Exp{x}}).Items}},
		{node(api.Exp{})}, {node(api.Exp{Form: api.EMap, Name: "f"})}, {node(api.Exp{Form: api.EReset, Name: "f"})}, {node(api.Exp{Form: api.EArr})}, {node(api.Exp{Form: api.EIndex, N: math.MinInt, Kids: []api.Exp{x}})}, {node(api.Exp{Form: api.ETick})}, {node(api.Exp{Form: api.ERep, N: 1 << 40, Kids: []api.Exp{x}})}, {node(api.Exp{Form: api.ELit, T: array(api.I8, 1<<40)})},
		{node(nested)}, {many, node(calls)}, {{Name: "g", Ins: many.Locals}, node(calls)}, {{Name: "f", Ins: vars(1<<40, "x")}}, {{Name: "f", Ins: vars(0, "x"), Outs: vars(1<<40, "y")}},
		{node(x, api.Var{Name: "z"})}, {node(x, loop, api.Var{Name: "b", Clock: []api.Edge{{Name: "a"}}})}, {{Name: "f", Ins: vars(0, "x"), Items: []api.Item{{States: []api.State{{Until: []api.Trans{{Cond: x, To: "nowhere"}}}}}}}},
		{{Name: "f", Ins: vars(0, "x"), Items: []api.Item{{States: []api.State{{Name: "A", Until: []api.Trans{{To: "A"}}}}}}}}, {{Name: "f", Ins: vars(0, "x"), Outs: vars(0, "y"), Items: []api.Item{{States: []api.State{{Name: "A", Unless: []api.Trans{{Cond: y, To: "A"}}, Items: []api.Item{{Names: []string{"y"}, E: x}}}}}}}},
	} {
		if outs, e := stream.Run(api.Program{Nodes: p}, "f", [][]int{{1}}); e == api.OK && len(outs) != 1 || e != api.OK && outs != nil {
			t.Errorf("%d: error %d, %v", i, e, outs)
		}
	}
	// what Parse can't answer, but the checks take
	if outs, e := stream.Run(api.Program{Nodes: []api.Node{{Name: "", Items: []api.Item{{E: g()}}}, {Name: "f", Items: []api.Item{{E: api.Exp{Form: api.ECall}}, {States: []api.State{{}}}}}}}, "f", [][]int{{}, nil}); e != api.ErrForm || outs != nil {
		t.Errorf("error %d, %v", e, outs)
	}
	if outs, e := stream.Run(api.Program{Nodes: []api.Node{{}, {Name: "f", Items: []api.Item{{E: api.Exp{Form: api.ECall}}, {States: []api.State{{}}}}}}}, "f", [][]int{{}, nil}); e != api.OK || !same(outs, [][]int{{}, {}}) {
		t.Errorf("error %d, %v", e, outs)
	}
}

// TestP1101Deep: a call ends, however deep the parts are within one another.
func TestP1101Deep(t *testing.T) {
	const deep = 1<<16 - 10
	x, c := api.Exp{Form: api.EVar, Name: "x"}, api.Exp{Form: api.EVar, Name: "c"}
	ins, outs := []api.Var{{Name: "x", T: kind(api.I8)}, {Name: "c", T: kind(api.Bool)}}, []api.Var{{Name: "y", T: kind(api.I8)}}
	of := func(e api.Exp) api.Node {
		return api.Node{Name: "f", Ins: ins, Outs: outs, Items: []api.Item{{Names: []string{"y"}, E: e}}}
	}
	g := api.Node{Name: "g", Ins: ins[:1], Outs: outs, Items: []api.Item{{Names: []string{"y"}, E: x}}}
	for form, around := range map[int]func(e api.Exp) []api.Exp{
		api.EUn: func(e api.Exp) []api.Exp { return []api.Exp{e} }, api.EBin: func(e api.Exp) []api.Exp { return []api.Exp{x, e} }, api.EIf: func(e api.Exp) []api.Exp { return []api.Exp{c, x, e} },
		api.EArrow: func(e api.Exp) []api.Exp { return []api.Exp{e, x} }, api.EFby: func(e api.Exp) []api.Exp { return []api.Exp{x, e} }, api.ECast: func(e api.Exp) []api.Exp { return []api.Exp{e} },
		api.ECall: func(e api.Exp) []api.Exp { return []api.Exp{e} }, api.EReset: func(e api.Exp) []api.Exp { return []api.Exp{e, c} },
	} {
		for _, count := range []int{4500, deep} {
			e := x
			for range count {
				e = api.Exp{Form: form, Sub: api.OpNot, T: kind(api.I8), Name: "g", Kids: around(e)}
				if form == api.EBin {
					e.Sub = api.OpOr
				}
			}
			want := api.OK
			if count == deep {
				want = api.ErrLong
			}
			refused(t, api.Program{Nodes: []api.Node{g, of(e)}}, "f", [][]int{{5, 0}, {6, 1}}, want)
		}
	}
	i := api.Item{Names: []string{"y"}, E: api.Exp{Form: api.EFby, Kids: []api.Exp{x, x}}}
	for range deep {
		i = api.Item{States: []api.State{{Name: "S", Items: []api.Item{i}, Until: nil}}}
	}
	i.States[0].Until = []api.Trans{{Cond: c, To: "S"}}
	n := of(x)
	n.Items = []api.Item{i}
	if got := run(t, api.Program{Nodes: []api.Node{n}}, "f", [][]int{{5, 0}, {6, 1}, {7, 0}, {8, 0}}); !same(got, [][]int{{5}, {5}, {7}, {7}}) {
		t.Errorf("%v", got)
	}
	var chain []api.Node
	for i := range 6000 {
		e := x
		if i > 0 {
			e = api.Exp{Form: api.EFby, Kids: []api.Exp{x, {Form: api.ECall, Name: "n" + strconv.Itoa(i-1), Kids: []api.Exp{x}}}}
		}
		chain = append(chain, api.Node{Name: "n" + strconv.Itoa(i), Ins: ins[:1], Outs: outs, Items: []api.Item{{Names: []string{"y"}, E: e}}})
	}
	refused(t, api.Program{Nodes: chain}, "n4999", [][]int{{5}, {6}}, api.OK)
	refused(t, api.Program{Nodes: chain}, "n5000", [][]int{{5}, {6}}, api.ErrLong)
}

// TestP1101Heavy: the heaviest nodes, for as many ticks as may be, all of whose instances are new at each of them.
func TestP1101Heavy(t *testing.T) {
	ins := make([][]int, api.MaxTicks)
	for i := range ins {
		ins[i] = []int{1}
	}
	x, yes := api.Exp{Form: api.EVar, Name: "x"}, api.Exp{Form: api.ELit, T: kind(api.Bool), N: 1}
	vars := []api.Var{{Name: "x", T: kind(api.I8)}, {Name: "y", T: kind(api.I8)}}
	e := x
	for range 3000 {
		e = api.Exp{Form: api.EBin, Sub: api.OpAdd, Kids: []api.Exp{x, {Form: api.EFby, Kids: []api.Exp{x, e}}}}
	}
	var nodes []api.Node
	for i := range 2000 {
		nodes = append(nodes, api.Node{Name: "n" + strconv.Itoa(i), Ins: vars[:1], Outs: vars[1:], Items: []api.Item{{Names: []string{"y"}, E: e}}})
		e = api.Exp{Form: api.EReset, Name: "n" + strconv.Itoa(i), Kids: []api.Exp{x, yes}}
	}
	for i, outs := range run(t, api.Program{Nodes: nodes}, "n1999", ins) {
		if outs[0] != 2 {
			t.Fatalf("tick %d: %v", i, outs)
		}
	}
}
