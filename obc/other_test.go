package obc_test

import (
	"math"
	"math/rand"
	"reflect"
	"slices"
	"testing"

	"metronome/api"
	"metronome/core"
	"metronome/obc"
)

// TestP1702Oracle holds Run against the oracle, of made step code, until each rule has shown.
func TestP1702Oracle(t *testing.T) {
	rules := []string{"zero", "at once", "else"}
	shown := map[string]int{}
	for seed := range 8000 {
		m := newMaker(seed)
		s := m.code()
		ins := m.ticks(api.Core{Ins: s.Ins}, 8)
		if e := obc.Check(s); e != api.OK {
			t.Fatalf("%+v\nerror %d", s, e)
		}
		want := played(s, ins, "")
		if got, e := obc.Run(s, ins); e != api.OK || !same(got, want) {
			t.Fatalf("%+v\nof %v: error %d, %v, not %v", s, ins, e, got, want)
		}
		for _, rule := range rules {
			if !same(played(s, ins, rule), want) {
				shown[rule]++
			}
		}
	}
	for _, rule := range rules {
		if shown[rule] < 100 {
			t.Errorf("without %q: %d", rule, shown[rule])
		}
	}
}

// TestP1701Oracle holds Check against the oracle, of made step code that was spoilt, until each clause has shown: without it another error would be told.
func TestP1701Oracle(t *testing.T) {
	list := clauses()
	shown := map[string]int{}
	for seed := range 40000 {
		m := newMaker(seed)
		s := m.code()
		if seed%4 > 0 {
			m.bend(&s)
		}
		for range m.r.Intn(3) {
			spoil(m.r, reflect.ValueOf(&s).Elem())
		}
		at := verdict(s, list)
		if got := obc.Check(s); got != list[at].what {
			t.Fatalf("%+v\nerror %d, not %d: %s", s, got, list[at].what, list[at].name)
		}
		if list[at].what == api.OK || list[at+1+verdict(s, list[at+1:])].what != list[at].what {
			shown[list[at].name]++
		}
		want := api.ErrForm
		if list[at].what == api.OK {
			want = api.OK
		}
		if _, e := obc.Run(s, nil); e != want {
			t.Fatalf("%+v\nerror %d, not %d", s, e, want)
		}
	}
	for _, l := range list {
		if shown[l.name] < 3 {
			t.Errorf("%q: %d", l.name, shown[l.name])
		}
	}
}

// bend changes a name, a kind or an expression into another one that there is, so that the step code is wrong by little.
func (m *maker) bend(s *api.Step) {
	if len(m.now) == 0 || len(s.Body) == 0 {
		return
	}
	v := pick(m, m.now)
	one := &s.Body[m.r.Intn(len(s.Body))]
	for len(one.Then) > 0 && m.r.Intn(2) == 0 {
		one = &one.Then[m.r.Intn(len(one.Then))]
	}
	switch m.r.Intn(5) {
	case 0:
		one.Name = v.Name
	case 1, 2:
		one.E = m.bent(one.E, v)
	case 3:
		one.E = m.exp(v.Kind, nil, 2)
	case 4:
		list := pick(m, [][]api.CVar{s.Ins, s.Outs, s.Vars})
		if len(list) > 0 {
			list[m.r.Intn(len(list))].Kind = v.Kind
		}
	}
}

// bent has another part somewhere.
func (m *maker) bent(e api.CExp, v api.CVar) api.CExp {
	e.Kids = slices.Clone(e.Kids)
	if len(e.Kids) > 0 && m.r.Intn(3) > 0 {
		at := m.r.Intn(len(e.Kids))
		e.Kids[at] = m.bent(e.Kids[at], v)
		return e
	}
	return pick(m, []api.CExp{ref(v.Name), lit(v.Kind, 0), cast(v.Kind, e), cast(0, e), un(1+m.r.Intn(3), e), bin(m.r.Intn(20), e, e)})
}

// spoil changes something: a number, a name, a list.
func spoil(r *rand.Rand, v reflect.Value) {
	var spots []reflect.Value
	var walk func(reflect.Value)
	walk = func(v reflect.Value) {
		switch v.Kind() {
		case reflect.Struct:
			for i := range v.NumField() {
				walk(v.Field(i))
			}
		case reflect.Slice:
			spots = append(spots, v)
			for i := range v.Len() {
				walk(v.Index(i))
			}
		default:
			spots = append(spots, v)
		}
	}
	walk(v)
	v = spots[r.Intn(len(spots))]
	switch v.Kind() {
	case reflect.Int:
		v.SetInt([]int64{math.MinInt, -1, 0, 1, 2, 3, 4, 5, 6, 7, 9, 10, 11, 12, 16, 1 << 30, math.MaxInt, 64, 65}[r.Intn(19)])
	case reflect.String:
		v.SetString([]string{"", "x0", "x1", "x2", "y0", "y1", "l0", "l1", "l2", "c0", "c1", "nobody"}[r.Intn(12)])
	case reflect.Bool:
		v.SetBool(!v.Bool())
	case reflect.Slice:
		if v.Len() > 0 && r.Intn(2) == 0 {
			v.Set(v.Slice(0, v.Len()-1))
		} else if v.Len() > 0 {
			v.Set(reflect.Append(v.Slice3(0, v.Len(), v.Len()), v.Index(r.Intn(v.Len()))))
		}
	}
}

// TestP1703Wrong: of programs that were spoilt step code is told, or ErrForm, as core.Check says.
func TestP1703Wrong(t *testing.T) {
	right := 0
	for seed := range 15000 {
		m := newMaker(seed)
		c := m.program()
		for range 1 + m.r.Intn(3) {
			spoil(m.r, reflect.ValueOf(&c).Elem())
		}
		if core.Check(c) == api.OK {
			right++
			means(t, c, m.ticks(c, 5))
			continue
		}
		if s, e := obc.Make(c); e != api.ErrForm || !reflect.DeepEqual(s, api.Step{}) {
			t.Fatalf("%+v\nerror %d, %+v", c, e, s)
		}
	}
	if right < 1000 || right > 14000 {
		t.Error(right)
	}
}

// copied is a copy that shares nothing.
func copied[T any](v T) T { return whole(reflect.ValueOf(v), false).Interface().(T) }

// kept makes a call with something that has spare room: that must stay as it is, and what is answered must stay when that is written over.
func kept[T, R any](t *testing.T, given T, call func(T) R) {
	t.Helper()
	v := roomy(reflect.ValueOf(given)).Interface().(T)
	ahead := whole(reflect.ValueOf(v), true)
	answer := call(v)
	if after := whole(reflect.ValueOf(v), true); !reflect.DeepEqual(after.Interface(), ahead.Interface()) {
		t.Fatalf("%+v, no longer %+v", after, ahead)
	}
	want := whole(reflect.ValueOf(answer), false)
	if again := call(v); !reflect.DeepEqual(whole(reflect.ValueOf(again), false).Interface(), want.Interface()) {
		t.Fatalf("%+v, then %+v", want, again)
	}
	scribble(reflect.ValueOf(&v).Elem())
	if after := whole(reflect.ValueOf(answer), false); !reflect.DeepEqual(after.Interface(), want.Interface()) {
		t.Fatalf("%+v, no longer %+v", after, want)
	}
	scribble(reflect.ValueOf(&answer).Elem())
	if again := call(given); !reflect.DeepEqual(whole(reflect.ValueOf(again), false).Interface(), want.Interface()) {
		t.Fatalf("%+v, then %+v", want, again)
	}
}

type running struct {
	S   api.Step
	Ins [][]int
}

func TestP1704Kept(t *testing.T) {
	for seed := range 200 {
		m := newMaker(seed)
		c := m.program()
		kept(t, c, func(c api.Core) api.Step { s, _ := obc.Make(c); return s })
		s := newMaker(seed).code()
		kept(t, s, obc.Check)
		kept(t, s, obc.Size)
		given := running{s, m.ticks(api.Core{Ins: s.Ins}, 6)}
		kept(t, given, func(r running) [][]int { outs, _ := obc.Run(r.S, r.Ins); return outs })
	}
}

// lists are all lists that are within something.
func lists(v reflect.Value) (all []reflect.Value) {
	switch v.Kind() {
	case reflect.Struct:
		for i := range v.NumField() {
			all = append(all, lists(v.Field(i))...)
		}
	case reflect.Slice:
		if v.Cap() > 0 {
			all = append(all, v)
		}
		for i := range v.Len() {
			all = append(all, lists(v.Index(i))...)
		}
	}
	return all
}

// apart tells whether no two lists share memory, not even spare room.
func apart(all []reflect.Value) bool {
	type span struct{ from, to uintptr }
	var spans []span
	for _, v := range all {
		from := v.Pointer()
		spans = append(spans, span{from, from + uintptr(v.Cap())*v.Type().Elem().Size()})
	}
	slices.SortFunc(spans, func(a, b span) int { return int(a.from) - int(b.from) })
	for i := 1; i < len(spans); i++ {
		if spans[i].from < spans[i-1].to {
			return false
		}
	}
	return true
}

// TestP1704New: no two lists of an answer share memory, with each other or with what was handed in.
func TestP1704New(t *testing.T) {
	for seed := range 500 {
		m := newMaker(seed)
		c := roomy(reflect.ValueOf(m.program())).Interface().(api.Core)
		s, _ := obc.Make(c)
		if !apart(append(lists(reflect.ValueOf(s)), lists(reflect.ValueOf(c))...)) {
			t.Fatalf("%+v\n%+v", c, s)
		}
		ins := m.ticks(c, 5)
		outs, _ := obc.Run(s, ins)
		if !apart(append(lists(reflect.ValueOf(outs)), lists(reflect.ValueOf(ins))...)) {
			t.Fatalf("%v\n%v", ins, outs)
		}
	}
	// one list that stands in many places
	one := []int{1, 0}
	c := program("x.i8 b.bool", "y.i8", "l.i8.b m.i8.b", mem("y", 0, "x", "b"), def("l", when(ref("x"), "b", 1)), def("m", when(ref("x"), "b", 1)))
	c.Eqs[1].E.Kids = c.Eqs[2].E.Kids
	c.Locals[0].Clock = c.Locals[1].Clock
	s, _ := obc.Make(c)
	outs, e := obc.Run(s, [][]int{one, one, one})
	if e != api.OK || !apart(lists(reflect.ValueOf(s))) || !apart(append(lists(reflect.ValueOf(outs)), reflect.ValueOf(one))) {
		t.Errorf("error %d, %+v, %v", e, s, outs)
	}
}

// TestP1704First: what is answered for the first ticks hangs on these alone.
func TestP1704First(t *testing.T) {
	for seed := range 200 {
		m := newMaker(seed)
		s := m.code()
		c := api.Core{Ins: s.Ins}
		ins := m.ticks(c, 8)
		all, _ := obc.Run(s, ins)
		for n := range ins {
			other := append(slices.Clone(ins[:n]), m.ticks(c, 3)...)
			if got, e := obc.Run(s, other); e != api.OK || !same(got[:n], all[:n]) {
				t.Fatalf("%+v\n%v, then %v", s, all, got)
			}
		}
	}
}

// TestP1704Alone: what is answered does not hang on calls ahead.
func TestP1704Alone(t *testing.T) {
	for seed := range 100 {
		want, _ := obc.Make(newMaker(seed).program())
		obc.Make(newMaker(seed + 1000).program())
		obc.Make(program("x.i8", "y.i8", ""))
		if again, e := obc.Make(newMaker(seed).program()); e != api.OK || !reflect.DeepEqual(again, want) {
			t.Fatalf("%+v, then %+v", want, again)
		}
	}
}

// TestP1701P1702Fields: what a form does not have is not looked at.
func TestP1701P1702Fields(t *testing.T) {
	for seed := range 500 {
		m := newMaker(seed)
		s := m.code()
		ins := m.ticks(api.Core{Ins: s.Ins}, 6)
		want, _ := obc.Run(s, ins)
		size := obc.Size(s)
		odd := copied(s)
		for _, list := range [][]api.CVar{odd.Ins, odd.Outs, odd.Vars} {
			for i := range list {
				list[i].Clock = []api.Edge{{Name: "nobody"}, {Name: "x0", On: true}}
			}
		}
		junkList(odd.Body)
		if got, e := obc.Run(odd, ins); e != api.OK || !same(got, want) || obc.Size(odd) != size {
			t.Fatalf("%+v\nerror %d, %v, not %v", odd, e, got, want)
		}
	}
}

func junkList(list []api.Stmt) {
	for i := range list {
		s := &list[i]
		junkExp(&s.E)
		if s.Form == api.SIf {
			s.Name = "nobody"
			junkList(s.Then)
			junkList(s.Else)
			continue
		}
		s.Then, s.Else = []api.Stmt{{Form: 77}}, slices.Repeat([]api.Stmt{{Name: "nobody"}}, 3)
	}
}

func junkExp(e *api.CExp) {
	for i := range e.Kids {
		junkExp(&e.Kids[i])
	}
	if !slices.Contains([]int{api.EVar, api.EWhen, api.EMerge}, e.Form) {
		e.Name = "nobody"
	}
	if e.Form != api.EUn && e.Form != api.EBin {
		e.Sub = -5
	}
	if e.Form != api.ELit && e.Form != api.ECast {
		e.Kind = 55
	}
	if e.Form != api.ELit && e.Form != api.EWhen {
		e.N = 1 << 40
	}
}

// TestP1703Fields: what a form does not have is not looked at, and is nothing in the answer.
func TestP1703Fields(t *testing.T) {
	for seed := range 500 {
		c := newMaker(seed).program()
		want := made(t, c)
		odd := copied(c)
		for i := range odd.Eqs {
			q := &odd.Eqs[i]
			if q.Form != api.CDef {
				q.E = api.CExp{Form: 77, Name: "nobody", Kids: []api.CExp{{}}}
			}
			if q.Form != api.CMem {
				q.Init, q.Next, q.Reset = 1<<40, "nobody", "nobody"
			}
			if q.Form != api.CTick {
				q.Period, q.Offset = -1, 1000
			}
			junkExp(&q.E)
		}
		if got, e := obc.Make(odd); e != api.OK || !reflect.DeepEqual(got, want) {
			t.Fatalf("%+v\nerror %d, %+v, not %+v", odd, e, got, want)
		}
	}
}

// TestP1702Heavy: as many statements as may be, as deep as may be, for as many ticks.
func TestP1702Heavy(t *testing.T) {
	y := set("y", bin(api.OpAdd, ref("y"), lit(api.I8, 1)))
	s := step("x.i8 b.bool", "y.i8", "", "m.i8.0", slices.Repeat(list(y), 19200)...)
	s.Body = append(s.Body, nested(set("y", bin(api.OpAdd, chain(399), ref("y"))), 400, func(i int) bool { return i%2 == 1 }))
	s.Body = append(s.Body, store("m", ref("y")))
	ins := slices.Repeat([][]int{{5, 0}}, 100)
	outs, e := obc.Run(s, ins)
	if e != api.OK || len(outs) != 100 || !same(outs[:1], played(s, ins[:1], "")) {
		t.Errorf("error %d, %v", e, outs)
	}
}

// roomy is a copy whose lists have spare room.
func roomy(v reflect.Value) reflect.Value {
	out := reflect.New(v.Type()).Elem()
	switch v.Kind() {
	case reflect.Struct:
		for i := range v.NumField() {
			out.Field(i).Set(roomy(v.Field(i)))
		}
	case reflect.Slice:
		out.Set(reflect.MakeSlice(v.Type(), v.Len(), v.Len()+2))
		for i := range v.Len() {
			out.Index(i).Set(roomy(v.Index(i)))
		}
	default:
		out.Set(v)
	}
	return out
}

// whole is a copy; its lists may have the spare room in them.
func whole(v reflect.Value, room bool) reflect.Value {
	out := reflect.New(v.Type()).Elem()
	switch v.Kind() {
	case reflect.Struct:
		for i := range v.NumField() {
			out.Field(i).Set(whole(v.Field(i), room))
		}
	case reflect.Slice:
		all := v
		if room {
			all = v.Slice(0, v.Cap())
		}
		for i := range all.Len() {
			out.Set(reflect.Append(out, whole(all.Index(i), room)))
		}
	default:
		out.Set(v)
	}
	return out
}

// scribble writes over all that is there, in spare room, too.
func scribble(v reflect.Value) {
	switch v.Kind() {
	case reflect.Struct:
		for i := range v.NumField() {
			scribble(v.Field(i))
		}
	case reflect.Slice:
		all := v.Slice(0, v.Cap())
		for i := range all.Len() {
			scribble(all.Index(i))
		}
	case reflect.Int:
		v.SetInt(77)
	case reflect.String:
		v.SetString("scribbled")
	case reflect.Bool:
		v.SetBool(!v.Bool())
	}
}
