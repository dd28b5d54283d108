package sched_test

import (
	"math"
	"math/rand"
	"reflect"
	"slices"
	"testing"

	"metronome/api"
	"metronome/sched"
)

// calls are what the package answers.
func calls() []func(api.Core) ([]int, api.Errno) {
	return []func(api.Core) ([]int, api.Errno){sched.Order, sched.Levels}
}

// TestP1503Kept: what is handed in stays as it is, its spare room too; what is answered stays when that is written over, and is answered again.
func TestP1503Kept(t *testing.T) {
	for seed := range 300 {
		given := newMaker(seed).program()
		for _, call := range calls() {
			c := roomy(reflect.ValueOf(given)).Interface().(api.Core)
			ahead := whole(reflect.ValueOf(c), true)
			list, _ := call(c)
			want := slices.Clone(list)
			if after := whole(reflect.ValueOf(c), true); !reflect.DeepEqual(after.Interface(), ahead.Interface()) {
				t.Fatalf("%+v, no longer %+v", after, ahead)
			}
			if again, _ := call(c); !slices.Equal(again, want) {
				t.Fatalf("%v, then %v", want, again)
			}
			scribble(reflect.ValueOf(&c).Elem())
			if !slices.Equal(list, want) {
				t.Fatalf("%v, no longer %v", list, want)
			}
			scribble(reflect.ValueOf(&list).Elem())
			if again, e := call(given); e != api.OK || !slices.Equal(again, want) {
				t.Fatalf("%v, then %v", want, again)
			}
		}
	}
}

// TestP1503Alone: what is answered does not hang on calls ahead.
func TestP1503Alone(t *testing.T) {
	for seed := range 100 {
		for _, call := range calls() {
			want, _ := call(newMaker(seed).program())
			call(newMaker(seed + 1000).program())
			call(program("x.i8", "y.i8", ""))
			if again, e := call(newMaker(seed).program()); e != api.OK || !slices.Equal(again, want) {
				t.Fatalf("%v, then %v", want, again)
			}
		}
	}
}

// TestP1501P1502Fields: what a form does not have is not looked at.
func TestP1501P1502Fields(t *testing.T) {
	for seed := range 1000 {
		c := newMaker(seed).program()
		for _, call := range calls() {
			want, _ := call(c)
			d := roomy(reflect.ValueOf(c)).Interface().(api.Core)
			for i := range d.Eqs {
				junk(d, &d.Eqs[i])
			}
			if got, e := call(d); e != api.OK || !slices.Equal(got, want) {
				t.Fatalf("%+v\nerror %d, %v, not %v", d, e, got, want)
			}
		}
	}
}

// junk puts names of the program's variables where a form has none.
func junk(c api.Core, q *api.CEq) {
	name := c.Eqs[0].Name
	if q.Form != api.CDef {
		q.E = bin(api.OpAdd, ref(name), merge(name, ref(name), when(ref(name), name, 1)))
	} else {
		junkExp(&q.E, name)
	}
	if q.Form != api.CMem {
		q.Init, q.Next, q.Reset = 1<<40, name, name
	}
	if q.Form != api.CTick {
		q.Period, q.Offset = -1, 1000
	}
}

func junkExp(e *api.CExp, name string) {
	for i := range e.Kids {
		junkExp(&e.Kids[i], name)
	}
	if !slices.Contains([]int{api.EVar, api.EWhen, api.EMerge}, e.Form) {
		e.Name = name
	}
	if e.Form != api.EUn && e.Form != api.EBin {
		e.Sub = -5
	}
	if e.Form != api.ELit && e.Form != api.ECast {
		e.Kind = 55
	}
	if e.Form != api.ELit && e.Form != api.EWhen {
		e.N = 1 << 40
	}
}

// TestP1501P1502Empty: a memory without a Reset does not hang on a variable whose name is empty; what names that one does.
func TestP1501P1502Empty(t *testing.T) {
	c := program("x.i8", "", "m.i8 k.bool", mem("m", 0, "x", ""), def("k", un(api.OpNot, ref(""))), def("", lit(api.Bool, 1)))
	c.Locals = append(c.Locals, api.CVar{Kind: api.Bool})
	tells(t, c, []int{0, 2, 1}, []int{0, 1, 0})
}

// spoil changes something: a number, a name, a list.
func spoil(r *rand.Rand, v reflect.Value) {
	var spots []reflect.Value
	var walk func(reflect.Value)
	walk = func(v reflect.Value) {
		switch v.Kind() {
		case reflect.Struct:
			for i := range v.NumField() {
				walk(v.Field(i))
			}
		case reflect.Slice:
			spots = append(spots, v)
			for i := range v.Len() {
				walk(v.Index(i))
			}
		default:
			spots = append(spots, v)
		}
	}
	walk(v)
	v = spots[r.Intn(len(spots))]
	switch v.Kind() {
	case reflect.Int:
		v.SetInt([]int64{math.MinInt, -1, 0, 1, 2, 3, 4, 5, 6, 7, 9, 10, 11, 12, 16, 1 << 30, math.MaxInt, 64, 65}[r.Intn(19)])
	case reflect.String:
		v.SetString([]string{"", "x0", "x1", "x2", "y0", "y1", "l0", "l1", "l2", "l3", "nobody"}[r.Intn(11)])
	case reflect.Bool:
		v.SetBool(!v.Bool())
	case reflect.Slice:
		if v.Len() > 0 && r.Intn(2) == 0 {
			v.Set(v.Slice(0, v.Len()-1))
		} else if v.Len() > 0 {
			v.Set(reflect.Append(v.Slice3(0, v.Len(), v.Len()), v.Index(r.Intn(v.Len()))))
		}
	}
}

// roomy is a copy whose lists have spare room.
func roomy(v reflect.Value) reflect.Value {
	out := reflect.New(v.Type()).Elem()
	switch v.Kind() {
	case reflect.Struct:
		for i := range v.NumField() {
			out.Field(i).Set(roomy(v.Field(i)))
		}
	case reflect.Slice:
		out.Set(reflect.MakeSlice(v.Type(), v.Len(), v.Len()+2))
		for i := range v.Len() {
			out.Index(i).Set(roomy(v.Index(i)))
		}
	default:
		out.Set(v)
	}
	return out
}

// whole is a copy; its lists may have the spare room in them.
func whole(v reflect.Value, room bool) reflect.Value {
	out := reflect.New(v.Type()).Elem()
	switch v.Kind() {
	case reflect.Struct:
		for i := range v.NumField() {
			out.Field(i).Set(whole(v.Field(i), room))
		}
	case reflect.Slice:
		all := v
		if room {
			all = v.Slice(0, v.Cap())
		}
		for i := range all.Len() {
			out.Set(reflect.Append(out, whole(all.Index(i), room)))
		}
	default:
		out.Set(v)
	}
	return out
}

// scribble writes over all that is there, in spare room, too.
func scribble(v reflect.Value) {
	switch v.Kind() {
	case reflect.Struct:
		for i := range v.NumField() {
			scribble(v.Field(i))
		}
	case reflect.Slice:
		all := v.Slice(0, v.Cap())
		for i := range all.Len() {
			scribble(all.Index(i))
		}
	case reflect.Int:
		v.SetInt(77)
	case reflect.String:
		v.SetString("scribbled")
	case reflect.Bool:
		v.SetBool(!v.Bool())
	}
}
