package core_test

import (
	"math"
	"math/rand"
	"reflect"
	"slices"
	"testing"

	"metronome/api"
	"metronome/bv"
	"metronome/core"
)

// TestP1302Oracle holds Run against the oracle, of made programs, until each rule has shown.
func TestP1302Oracle(t *testing.T) {
	rules := []string{"Reset", "activation"}
	shown := map[string]int{}
	for seed := range 9000 {
		m := newMaker(seed)
		c := m.program()
		ins := m.ticks(c, 12)
		if e := core.Check(c); e != api.OK {
			t.Fatalf("%+v\nerror %d", c, e)
		}
		want := meaning(c, ins, "")
		if got, e := core.Run(c, ins); e != api.OK || !same(got, want) {
			t.Fatalf("%+v\nof %v: error %d, %v, not %v", c, ins, e, got, want)
		}
		for _, rule := range rules {
			if !same(meaning(c, ins, rule), want) {
				shown[rule]++
			}
		}
	}
	for _, rule := range rules {
		if shown[rule] < 10 {
			t.Errorf("without %q: %d programs", rule, shown[rule])
		}
	}
}

// TestP1301Oracle holds Check against the oracle, of made programs that were spoilt, until each clause has shown: without it another error would be told.
func TestP1301Oracle(t *testing.T) {
	list := clauses()
	shown := map[string]int{}
	for seed := range 25000 {
		m := newMaker(seed)
		c := m.program()
		if seed%4 > 0 {
			m.bend(&c)
		}
		for range m.r.Intn(3) {
			spoil(m.r, reflect.ValueOf(&c).Elem())
		}
		at := verdict(c, list)
		if got := core.Check(c); got != list[at].what {
			t.Fatalf("%+v\nerror %d, not %d: %s", c, got, list[at].what, list[at].name)
		}
		if list[at].what == api.OK || list[at+1+verdict(c, list[at+1:])].what != list[at].what {
			shown[list[at].name]++
		}
	}
	for _, l := range list[4:] { // TestP1301Long has those ahead
		if shown[l.name] < 3 {
			t.Errorf("%q: %d programs", l.name, shown[l.name])
		}
	}
	if shown["nothing"] < 1000 {
		t.Error(shown)
	}
}

// bend changes a name or a clock into another one of the program, so that it is wrong by little.
func (m *maker) bend(c *api.Core) {
	if len(m.all) == 0 || len(c.Eqs) == 0 {
		return
	}
	v, w := pick(m, m.all), pick(m, m.all)
	q := &c.Eqs[m.r.Intn(len(c.Eqs))]
	list := pick(m, [][]api.CVar{c.Ins, c.Outs, c.Locals, c.Locals})
	switch m.r.Intn(8) {
	case 0:
		q.Next = v.Name
	case 1:
		q.Reset = v.Name
	case 2, 3:
		q.E = m.bent(q.E, v.Name)
	case 4:
		if len(list) > 0 {
			list[m.r.Intn(len(list))].Clock = slices.Clone(w.Clock)
		}
	case 5:
		if len(list) > 0 {
			list[m.r.Intn(len(list))].Clock = append(slices.Clone(v.Clock), api.Edge{Name: w.Name, On: m.r.Intn(2) == 0})
		}
	case 6:
		m.now = m.all
		of := m.all[slices.IndexFunc(m.all, func(v api.CVar) bool { return v.Name == q.Name })]
		*q = m.equation(of)
	case 7:
		if len(list) > 0 {
			list[m.r.Intn(len(list))].Kind = w.Kind
		}
	}
}

// bent has another name somewhere.
func (m *maker) bent(e api.CExp, name string) api.CExp {
	e.Kids = slices.Clone(e.Kids)
	if len(e.Kids) > 0 && m.r.Intn(3) > 0 {
		at := m.r.Intn(len(e.Kids))
		e.Kids[at] = m.bent(e.Kids[at], name)
	} else if hasName(e) {
		e.Name = name
	}
	return e
}

// spoil changes something: a number, a name, a list.
func spoil(r *rand.Rand, v reflect.Value) {
	var spots []reflect.Value
	var walk func(reflect.Value)
	walk = func(v reflect.Value) {
		switch v.Kind() {
		case reflect.Struct:
			for i := range v.NumField() {
				walk(v.Field(i))
			}
		case reflect.Slice:
			spots = append(spots, v)
			for i := range v.Len() {
				walk(v.Index(i))
			}
		default:
			spots = append(spots, v)
		}
	}
	walk(v)
	v = spots[r.Intn(len(spots))]
	switch v.Kind() {
	case reflect.Int:
		v.SetInt([]int64{math.MinInt, -1, 0, 1, 2, 3, 4, 5, 6, 7, 9, 10, 11, 12, 16, 1 << 30, math.MaxInt, 64, 65}[r.Intn(19)])
	case reflect.String:
		v.SetString([]string{"", "x0", "x1", "x2", "y0", "y1", "l0", "l1", "l2", "l3", "nobody"}[r.Intn(11)])
	case reflect.Bool:
		v.SetBool(!v.Bool())
	case reflect.Slice:
		if v.Len() > 0 && r.Intn(2) == 0 {
			v.Set(v.Slice(0, v.Len()-1))
		} else if v.Len() > 0 {
			v.Set(reflect.Append(v.Slice3(0, v.Len(), v.Len()), v.Index(r.Intn(v.Len()))))
		}
	}
}

// TestP1303Kept: what is handed in stays as it is, its spare room too; what is answered stays when that is written over, and is answered again.
func TestP1303Kept(t *testing.T) {
	for seed := range 200 {
		m := newMaker(seed)
		made := m.program()
		given := m.ticks(made, 6)
		c := roomy(reflect.ValueOf(made)).Interface().(api.Core)
		ins := roomy(reflect.ValueOf(given)).Interface().([][]int)
		wholeC, wholeIns := whole(reflect.ValueOf(c), true), whole(reflect.ValueOf(ins), true)
		check := core.Check(c)
		outs, e := core.Run(c, ins)
		if check != api.OK || e != api.OK {
			t.Fatalf("%+v\nerror %d, %d", c, check, e)
		}
		want := whole(reflect.ValueOf(outs), false).Interface().([][]int)
		if after := whole(reflect.ValueOf(c), true); !reflect.DeepEqual(after.Interface(), wholeC.Interface()) {
			t.Fatalf("%+v, no longer %+v", after, wholeC)
		}
		if after := whole(reflect.ValueOf(ins), true); !reflect.DeepEqual(after.Interface(), wholeIns.Interface()) {
			t.Fatalf("%+v, no longer %+v", after, wholeIns)
		}
		scribble(reflect.ValueOf(&c).Elem())
		scribble(reflect.ValueOf(&ins).Elem())
		if !same(outs, want) {
			t.Fatalf("%v, no longer %v", outs, want)
		}
		scribble(reflect.ValueOf(&outs).Elem())
		if again, _ := core.Run(made, given); !same(again, want) {
			t.Fatalf("%v, then %v", want, again)
		}
	}
}

// TestP1303New: no two lists of an answer share memory, not even spare room.
func TestP1303New(t *testing.T) {
	c := program("x.i8 z.i8", "y.i8 w.i8", "", def("y", ref("x")), def("w", ref("z")))
	one := []int{1, 2, 3}[:2]
	outs, _ := core.Run(c, [][]int{one, one, one})
	lists := append(outs, one)
	for i, l := range lists {
		for k, other := range lists {
			if i != k {
				room := other[:cap(other)]
				ahead := slices.Clone(room)
				for n := range l[:cap(l)] {
					l[:cap(l)][n]++
				}
				if !slices.Equal(ahead, room) {
					t.Errorf("%d, %d share", i, k)
				}
			}
		}
	}
}

// TestP1303First: what is answered for the first ticks hangs on these alone.
func TestP1303First(t *testing.T) {
	for seed := range 200 {
		m := newMaker(seed)
		c := m.program()
		ins := m.ticks(c, 8)
		all, _ := core.Run(c, ins)
		for n := range ins {
			other := append(slices.Clone(ins[:n]), m.ticks(c, 3)...)
			if got, e := core.Run(c, other); e != api.OK || !same(got[:n], all[:n]) {
				t.Fatalf("%+v\n%v, then %v", c, all, got)
			}
		}
	}
}

// TestP1301Fields: what a form does not have is not looked at.
func TestP1301Fields(t *testing.T) {
	for seed := range 500 {
		m := newMaker(seed)
		made := m.program()
		ins := m.ticks(made, 6)
		want, _ := core.Run(made, ins)
		c := whole(reflect.ValueOf(made), false).Interface().(api.Core)
		for i := range c.Eqs {
			junk(&c.Eqs[i])
		}
		if got, e := core.Run(c, ins); e != api.OK || !same(got, want) {
			t.Fatalf("%+v\nerror %d, %v, not %v", c, e, got, want)
		}
	}
}

func junk(q *api.CEq) {
	if q.Form != api.CDef {
		q.E = api.CExp{Form: 77, Name: "nobody", Kids: []api.CExp{{}}}
	}
	if q.Form != api.CMem {
		q.Init, q.Next, q.Reset = 1<<40, "nobody", "nobody"
	}
	if q.Form != api.CTick {
		q.Period, q.Offset = -1, 1000
	}
	junkExp(&q.E)
}

func junkExp(e *api.CExp) {
	for i := range e.Kids {
		junkExp(&e.Kids[i])
	}
	if !hasName(*e) {
		e.Name = "nobody"
	}
	if e.Form != api.EUn && e.Form != api.EBin {
		e.Sub = -5
	}
	if e.Form != api.ELit && e.Form != api.ECast {
		e.Kind = 55
	}
	if e.Form != api.ELit && e.Form != api.EWhen {
		e.N = 1 << 40
	}
}

// TestP1302Heavy: as many variables as may be, each behind the other, as deep as may be, for as many ticks.
func TestP1302Heavy(t *testing.T) {
	c := program("x.i8", "y.i8", "")
	last := "x"
	for i, v := range many(0, 1997).Locals {
		e := bin(api.OpAdd, ref(last), lit(api.I8, 1))
		if i%100 == 0 {
			for range 398 {
				e = un(api.OpNot, e)
			}
		}
		c.Locals = append(c.Locals, v)
		c.Eqs = append(c.Eqs, def(v.Name, e))
		last = v.Name
	}
	c.Eqs = append(c.Eqs, def("y", ref(last)))
	slices.Reverse(c.Eqs)
	outs, e := core.Run(c, slices.Repeat([][]int{{5}}, 1000))
	if e != api.OK || len(outs) != 1000 || outs[999][0] != bv.Wrap(api.I8, 5+1997) {
		t.Errorf("error %d, %v", e, outs[len(outs)-1:])
	}
}

// roomy is a copy whose lists have spare room.
func roomy(v reflect.Value) reflect.Value {
	out := reflect.New(v.Type()).Elem()
	switch v.Kind() {
	case reflect.Struct:
		for i := range v.NumField() {
			out.Field(i).Set(roomy(v.Field(i)))
		}
	case reflect.Slice:
		out.Set(reflect.MakeSlice(v.Type(), v.Len(), v.Len()+2))
		for i := range v.Len() {
			out.Index(i).Set(roomy(v.Index(i)))
		}
	default:
		out.Set(v)
	}
	return out
}

// whole is a copy; its lists may have the spare room in them.
func whole(v reflect.Value, room bool) reflect.Value {
	out := reflect.New(v.Type()).Elem()
	switch v.Kind() {
	case reflect.Struct:
		for i := range v.NumField() {
			out.Field(i).Set(whole(v.Field(i), room))
		}
	case reflect.Slice:
		all := v
		if room {
			all = v.Slice(0, v.Cap())
		}
		for i := range all.Len() {
			out.Set(reflect.Append(out, whole(all.Index(i), room)))
		}
	default:
		out.Set(v)
	}
	return out
}

// scribble writes over all that is there, in spare room, too.
func scribble(v reflect.Value) {
	switch v.Kind() {
	case reflect.Struct:
		for i := range v.NumField() {
			scribble(v.Field(i))
		}
	case reflect.Slice:
		all := v.Slice(0, v.Cap())
		for i := range all.Len() {
			scribble(all.Index(i))
		}
	case reflect.Int:
		v.SetInt(77)
	case reflect.String:
		v.SetString("scribbled")
	case reflect.Bool:
		v.SetBool(!v.Bool())
	}
}
