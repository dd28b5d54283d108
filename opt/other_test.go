package opt_test

import (
	"math"
	"math/rand"
	"reflect"
	"slices"
	"strconv"
	"sync"
	"testing"

	"metronome/api"
	"metronome/obc"
	"metronome/opt"
)

// TestP1801Oracle: of made step code all that is promised holds, until each thing that is to be gone has shown.
func TestP1801Oracle(t *testing.T) {
	shown, shorter := map[string]int{}, 0
	for seed := range 8000 {
		m := newMaker(seed)
		s := m.code()
		got := shortened(t, s, m.ticks(s, 10))
		for what := range dirt(s) {
			shown[what]++
		}
		if obc.Size(got) < obc.Size(s) && len(got.Body) > 0 {
			shorter++
		}
		if again := shortened(t, got, nil); !reflect.DeepEqual(whole(reflect.ValueOf(again), false).Interface(), whole(reflect.ValueOf(got), false).Interface()) {
			t.Fatalf("%s\nthen %s", code(got.Body), code(again.Body))
		}
	}
	for _, what := range gone() {
		if shown[what] < 200 {
			t.Errorf("%q: %d", what, shown[what])
		}
	}
	if shorter < 2000 {
		t.Error(shorter)
	}
}

// spoil changes something: a number, a name, a list.
func spoil(r *rand.Rand, v reflect.Value) {
	var spots []reflect.Value
	var walk func(reflect.Value)
	walk = func(v reflect.Value) {
		switch v.Kind() {
		case reflect.Struct:
			for i := range v.NumField() {
				walk(v.Field(i))
			}
		case reflect.Slice:
			spots = append(spots, v)
			for i := range v.Len() {
				walk(v.Index(i))
			}
		default:
			spots = append(spots, v)
		}
	}
	walk(v)
	v = spots[r.Intn(len(spots))]
	switch v.Kind() {
	case reflect.Int:
		v.SetInt([]int64{math.MinInt, -1, 0, 1, 2, 3, 4, 5, 6, 7, 9, 10, 11, 12, 16, 1 << 30, math.MaxInt, 64, 65}[r.Intn(19)])
	case reflect.String:
		v.SetString([]string{"", "x0", "x1", "x2", "y0", "y1", "l0", "l1", "l2", "c0", "c1", "nobody"}[r.Intn(12)])
	case reflect.Bool:
		v.SetBool(!v.Bool())
	case reflect.Slice:
		if v.Len() > 0 && r.Intn(2) == 0 {
			v.Set(v.Slice(0, v.Len()-1))
		} else if v.Len() > 0 {
			v.Set(reflect.Append(v.Slice3(0, v.Len(), v.Len()), v.Index(r.Intn(v.Len()))))
		}
	}
}

// TestP1801Wrong: of step code that was spoilt shorter one is told, or ErrForm, as obc.Check says; what Fold answers of its expressions it answers of those that are none, too.
func TestP1801Wrong(t *testing.T) {
	right := 0
	for seed := range 6000 {
		m := newMaker(seed)
		s := m.code()
		for range 1 + m.r.Intn(3) {
			spoil(m.r, reflect.ValueOf(&s).Elem())
		}
		for _, one := range s.Body {
			opt.Fold(one.E)
		}
		if obc.Check(s) == api.OK {
			right++
			shortened(t, s, m.ticks(s, 5))
			continue
		}
		if got, e := opt.Step(s); e != api.ErrForm || !reflect.DeepEqual(got, api.Step{}) {
			t.Fatalf("%+v\nerror %d, %+v", s, e, got)
		}
	}
	if right < 500 || right > 5500 {
		t.Error(right)
	}
}

// copied is a copy that shares nothing.
func copied[T any](v T) T { return whole(reflect.ValueOf(v), false).Interface().(T) }

// kept makes a call with something that has spare room: that must stay as it is, and what is answered must stay when that is written over.
func kept[T, R any](t *testing.T, given T, call func(T) R) {
	t.Helper()
	v := roomy(reflect.ValueOf(given)).Interface().(T)
	ahead := whole(reflect.ValueOf(v), true)
	answer := call(v)
	if after := whole(reflect.ValueOf(v), true); !reflect.DeepEqual(after.Interface(), ahead.Interface()) {
		t.Fatalf("%+v, no longer %+v", after, ahead)
	}
	want := whole(reflect.ValueOf(answer), false)
	if again := call(v); !reflect.DeepEqual(whole(reflect.ValueOf(again), false).Interface(), want.Interface()) {
		t.Fatalf("%+v, then %+v", want, again)
	}
	scribble(reflect.ValueOf(&v).Elem())
	if after := whole(reflect.ValueOf(answer), false); !reflect.DeepEqual(after.Interface(), want.Interface()) {
		t.Fatalf("%+v, no longer %+v", after, want)
	}
	scribble(reflect.ValueOf(&answer).Elem())
	if again := call(given); !reflect.DeepEqual(whole(reflect.ValueOf(again), false).Interface(), want.Interface()) {
		t.Fatalf("%+v, then %+v", want, again)
	}
}

func stepOf(s api.Step) api.Step { made, _ := opt.Step(s); return made }

func TestP1803Kept(t *testing.T) {
	for seed := range 500 {
		m := newMaker(seed)
		s := m.code()
		for i := range s.Ins {
			s.Ins[i].Clock = []api.Edge{{Name: "c"}}
		}
		kept(t, s, stepOf)
		if len(s.Body) > 0 {
			kept(t, s.Body[0].E, opt.Fold)
		}
		kept(t, m.any(4), opt.Fold)
		kept(t, choose(lit(api.Bool, 1), bin(api.OpAdd, ref("a"), ref("b")), ref("c")), opt.Fold)
	}
}

// lists are all lists that are within something.
func lists(v reflect.Value) (all []reflect.Value) {
	switch v.Kind() {
	case reflect.Struct:
		for i := range v.NumField() {
			all = append(all, lists(v.Field(i))...)
		}
	case reflect.Slice:
		if v.Cap() > 0 {
			all = append(all, v)
		}
		for i := range v.Len() {
			all = append(all, lists(v.Index(i))...)
		}
	}
	return all
}

// apart tells whether no two lists share memory, not even spare room.
func apart(all []reflect.Value) bool {
	type span struct{ from, to uintptr }
	var spans []span
	for _, v := range all {
		from := v.Pointer()
		spans = append(spans, span{from, from + uintptr(v.Cap())*v.Type().Elem().Size()})
	}
	slices.SortFunc(spans, func(a, b span) int { return int(a.from) - int(b.from) })
	for i := 1; i < len(spans); i++ {
		if spans[i].from < spans[i-1].to {
			return false
		}
	}
	return true
}

// TestP1803New: no two lists of an answer share memory, with each other or with what was handed in.
func TestP1803New(t *testing.T) {
	for seed := range 1000 {
		m := newMaker(seed)
		s := roomy(reflect.ValueOf(m.code())).Interface().(api.Step)
		if made := stepOf(s); !apart(append(lists(reflect.ValueOf(made)), lists(reflect.ValueOf(s))...)) {
			t.Fatalf("%+v\n%+v", s, made)
		}
		e := roomy(reflect.ValueOf(m.any(4))).Interface().(api.CExp)
		if made := opt.Fold(e); !apart(append(lists(reflect.ValueOf(made)), lists(reflect.ValueOf(e))...)) {
			t.Fatalf("%+v\n%+v", e, made)
		}
	}
	// one list that stands in many places
	e := bin(api.OpAdd, ref("x"), bin(api.OpMul, ref("x"), ref("y")))
	clock := []api.Edge{{Name: "x"}}
	s := api.Step{Ins: []api.CVar{{Name: "x", Kind: api.I8, Clock: clock}, {Name: "b", Kind: api.Bool, Clock: clock}}, Outs: []api.CVar{{Name: "y", Kind: api.I8, Clock: clock}}, Body: list(set("y", e), fork(ref("b"), list(set("y", bin(api.OpSub, e, e))), nil))}
	s.Body[1].Else = s.Body[1].Then
	s.Body = append(s.Body, s.Body...)
	if made := stepOf(s); code(made.Body) != code(s.Body) || !apart(lists(reflect.ValueOf(made))) {
		t.Errorf("%+v", made)
	}
	if made := opt.Fold(bin(api.OpSub, e, e)); !apart(lists(reflect.ValueOf(made))) {
		t.Errorf("%+v", made)
	}
}

// TestP1803Alone: what is answered does not hang on calls ahead, or at the same time.
func TestP1803Alone(t *testing.T) {
	for seed := range 100 {
		want := stepOf(newMaker(seed).code())
		stepOf(newMaker(seed + 1000).code())
		stepOf(api.Step{})
		var all sync.WaitGroup
		for range 4 {
			all.Go(func() {
				if again := stepOf(newMaker(seed).code()); !reflect.DeepEqual(again, want) {
					t.Errorf("%+v, then %+v", want, again)
				}
			})
		}
		all.Wait()
	}
}

func junkList(list []api.Stmt) {
	for i := range list {
		s := &list[i]
		junkExp(&s.E)
		if s.Form == api.SIf {
			s.Name = "y" + strconv.Itoa(i)
			junkList(s.Then)
			junkList(s.Else)
			continue
		}
		s.Then, s.Else = []api.Stmt{{Form: 77}}, slices.Repeat([]api.Stmt{{Name: "nobody"}}, 3)
	}
}

func junkExp(e *api.CExp) {
	for i := range e.Kids {
		junkExp(&e.Kids[i])
	}
	if !slices.Contains([]int{api.EVar, api.EWhen, api.EMerge}, e.Form) {
		e.Name = "l" + strconv.Itoa(e.N&1)
	}
	if e.Form != api.EUn && e.Form != api.EBin {
		e.Sub = -5
	}
	if e.Form != api.ELit && e.Form != api.ECast {
		e.Kind = 55
	}
	if e.Form != api.ELit && e.Form != api.EWhen {
		e.N = 1<<40 + len(e.Kids)
	}
}

// TestP1801Fields: what a form does not have is not looked at, and is nothing in the answer.
func TestP1801Fields(t *testing.T) {
	for seed := range 1000 {
		s := newMaker(seed).code()
		want := stepOf(s)
		odd := copied(s)
		for i := range odd.Vars {
			odd.Vars[i].Clock = []api.Edge{{Name: "nobody"}, {Name: "x0", On: true}}
		}
		junkList(odd.Body)
		if got, e := opt.Step(odd); e != api.OK || !reflect.DeepEqual(whole(reflect.ValueOf(got), false).Interface(), whole(reflect.ValueOf(want), false).Interface()) {
			t.Fatalf("%+v\nerror %d, %+v, not %+v", odd, e, got, want)
		}
	}
}

// nested is a statement with others within it, so deep.
func nested(s api.Stmt, deep int, cond func(i int) api.CExp) api.Stmt {
	for i := range deep - 1 {
		if i%2 == 0 {
			s = fork(cond(i), list(s), nil)
		} else {
			s = fork(cond(i), nil, list(s))
		}
	}
	return s
}

// TestP1801Heavy: as many statements as may be, as deep as may be, names that hang on each other in any order.
func TestP1801Heavy(t *testing.T) {
	x, b := ref("x"), ref("b")
	ins := [][]int{{5, 0}, {-7, 1}, {9, 1}}
	base := func(body ...api.Stmt) api.Step { return step("x.i8 b.bool", "y.i8", "", "", body...) }
	var pairs []api.Stmt
	for i := range 10000 {
		pairs = append(pairs, fork(b, list(set("y", bin(api.OpAdd, ref("y"), lit(api.I8, i%5)))), nil))
	}
	if got := shortened(t, base(pairs...), ins); len(got.Body) != 1 || len(got.Body[0].Then) != 10000 {
		t.Error(len(got.Body))
	}
	// deep ones
	asks := func(int) api.CExp { return b }
	known := func(i int) api.CExp { return un(api.OpNot, lit(api.Bool, i%2)) }
	two := list(nested(set("y", x), 400, asks), nested(set("y", lit(api.I8, 1)), 400, asks))
	if got := shortened(t, base(slices.Repeat(two, 25)...), ins); len(every(got.Body)) != 399+50 {
		t.Error(len(every(got.Body)))
	}
	if got := shortened(t, base(slices.Repeat(list(nested(fork(b, slices.Repeat(list(set("y", x)), 19000), nil), 399, known)), 1)...), ins); len(got.Body) != 1 || len(got.Body[0].Then) != 19000 {
		t.Error(len(got.Body))
	}
	// names
	var chain api.Step
	chain.Ins, chain.Outs = vars("x.i8 b.bool"), vars("y.i8")
	for i := range 7990 {
		name := "v" + strconv.Itoa(i)
		next := ref("v" + strconv.Itoa(i+1))
		if i == 7989 {
			next = x
		}
		if i%2 == 0 {
			chain.Vars = append(chain.Vars, api.CVar{Name: name, Kind: api.I8})
			chain.Body = append(chain.Body, set(name, next))
		} else {
			chain.Cells = append(chain.Cells, api.Cell{Name: name, Kind: api.I8})
			chain.Body = append(chain.Body, fork(bin(api.OpEq, next, x), list(store(name, next)), nil))
		}
	}
	rand.New(rand.NewSource(1)).Shuffle(len(chain.Body), func(i, j int) { chain.Body[i], chain.Body[j] = chain.Body[j], chain.Body[i] })
	if got := shortened(t, chain, ins); len(got.Body)+len(names(got)) != 0 {
		t.Error(len(got.Body), names(got))
	}
	chain.Body = append(chain.Body, set("y", ref("v0")))
	if got := shortened(t, chain, ins); len(got.Body) != 7991 || len(names(got)) != 7990 {
		t.Error(len(got.Body), len(names(got)))
	}
}

// roomy is a copy whose lists have spare room.
func roomy(v reflect.Value) reflect.Value {
	out := reflect.New(v.Type()).Elem()
	switch v.Kind() {
	case reflect.Struct:
		for i := range v.NumField() {
			out.Field(i).Set(roomy(v.Field(i)))
		}
	case reflect.Slice:
		out.Set(reflect.MakeSlice(v.Type(), v.Len(), v.Len()+2))
		for i := range v.Len() {
			out.Index(i).Set(roomy(v.Index(i)))
		}
	default:
		out.Set(v)
	}
	return out
}

// whole is a copy; its lists may have the spare room in them.
func whole(v reflect.Value, room bool) reflect.Value {
	out := reflect.New(v.Type()).Elem()
	switch v.Kind() {
	case reflect.Struct:
		for i := range v.NumField() {
			out.Field(i).Set(whole(v.Field(i), room))
		}
	case reflect.Slice:
		all := v
		if room {
			all = v.Slice(0, v.Cap())
		}
		for i := range all.Len() {
			out.Set(reflect.Append(out, whole(all.Index(i), room)))
		}
	default:
		out.Set(v)
	}
	return out
}

// scribble writes over all that is there, in spare room, too.
func scribble(v reflect.Value) {
	switch v.Kind() {
	case reflect.Struct:
		for i := range v.NumField() {
			scribble(v.Field(i))
		}
	case reflect.Slice:
		all := v.Slice(0, v.Cap())
		for i := range all.Len() {
			scribble(all.Index(i))
		}
	case reflect.Int:
		v.SetInt(77)
	case reflect.String:
		v.SetString("scribbled")
	case reflect.Bool:
		v.SetBool(!v.Bool())
	}
}
