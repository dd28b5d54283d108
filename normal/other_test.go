package normal_test

import (
	"math"
	"math/rand"
	"reflect"
	"slices"
	"testing"

	"metronome/api"
	"metronome/core"
	"metronome/normal"
)

// TestP1403Kept: what is handed in stays as it is, its spare room too; what is answered stays when that is written over, and is answered again.
func TestP1403Kept(t *testing.T) {
	for seed := range 300 {
		given := newMaker(seed).program()
		c := roomy(reflect.ValueOf(given)).Interface().(api.Core)
		ahead := whole(reflect.ValueOf(c), true)
		n := made(t, c)
		normal.Is(c)
		want := whole(reflect.ValueOf(n), false).Interface().(api.Core)
		if after := whole(reflect.ValueOf(c), true); !reflect.DeepEqual(after.Interface(), ahead.Interface()) {
			t.Fatalf("%+v, no longer %+v", after, ahead)
		}
		if again := made(t, c); !reflect.DeepEqual(again, want) {
			t.Fatalf("%+v, then %+v", want, again)
		}
		scribble(reflect.ValueOf(&c).Elem())
		if !reflect.DeepEqual(n, want) {
			t.Fatalf("%+v, no longer %+v", n, want)
		}
		scribble(reflect.ValueOf(&n).Elem())
		if again := made(t, given); !reflect.DeepEqual(again, want) {
			t.Fatalf("%+v, then %+v", want, again)
		}
	}
}

// TestP1403New: no two lists of an answer share memory, not even spare room; nor do they with what is handed in.
func TestP1403New(t *testing.T) {
	for seed := range 300 {
		c := roomy(reflect.ValueOf(newMaker(seed).program())).Interface().(api.Core)
		n := made(t, c)
		var mine, rooms [][2]uintptr
		lists(reflect.ValueOf(n), &mine)
		lists(reflect.ValueOf(c), &rooms)
		for i, m := range mine {
			for _, other := range append(rooms, mine[:i]...) {
				if m[0] < other[1] && other[0] < m[1] {
					t.Fatalf("%+v\n%+v", c, n)
				}
			}
		}
	}
}

// lists are where the lists of a value stand.
func lists(v reflect.Value, rooms *[][2]uintptr) {
	switch v.Kind() {
	case reflect.Struct:
		for i := range v.NumField() {
			lists(v.Field(i), rooms)
		}
	case reflect.Slice:
		if v.Cap() > 0 {
			at := v.Pointer()
			*rooms = append(*rooms, [2]uintptr{at, at + uintptr(v.Cap())*v.Type().Elem().Size()})
		}
		for i := range v.Len() {
			lists(v.Index(i), rooms)
		}
	}
}

// TestP1403Shared: parts that share memory are taken apart each by itself.
func TestP1403Shared(t *testing.T) {
	part := un(api.OpNeg, bin(api.OpAdd, ref("x"), lit(api.I8, 1)))
	both := bin(api.OpMul, part, part)
	clock := vars("l.i8.b")[0].Clock
	c := program("x.i8 b.bool", "y.i8 z.i8", "", def("y", both), def("z", bin(api.OpSub, both, both)))
	c.Locals = []api.CVar{{Name: "k", Kind: api.I8, Clock: clock}, {Name: "l", Kind: api.I8, Clock: clock}}
	c.Eqs = append(c.Eqs, def("k", when(both, "b", 1)), def("l", when(part, "b", 1)))
	means(t, c, [][]int{{1, 0}, {2, 1}, {-128, 1}})
	n := made(t, c)
	var mine [][2]uintptr
	lists(reflect.ValueOf(n), &mine)
	slices.SortFunc(mine, func(a, b [2]uintptr) int { return int(a[0]) - int(b[0]) })
	for i := 1; i < len(mine); i++ {
		if mine[i][0] < mine[i-1][1] {
			t.Fatalf("%+v", n)
		}
	}
}

// TestP1403Alone: what is answered does not hang on calls ahead.
func TestP1403Alone(t *testing.T) {
	for seed := range 100 {
		c := newMaker(seed).program()
		want := made(t, c)
		normal.Make(newMaker(seed + 1000).program())
		normal.Make(program("x.i8", "y.i8", ""))
		if again := made(t, c); !reflect.DeepEqual(again, want) {
			t.Fatalf("%+v, then %+v", want, again)
		}
	}
}

// TestP1402Wrong: of programs that were spoilt Make answers one that is right, or ErrForm, as core.Check says.
func TestP1402Wrong(t *testing.T) {
	right := 0
	for seed := range 20000 {
		m := newMaker(seed)
		c := m.program()
		for range 1 + m.r.Intn(3) {
			spoil(m.r, reflect.ValueOf(&c).Elem())
		}
		n, e := normal.Make(c)
		if wrong := core.Check(c) != api.OK; wrong != (e == api.ErrForm) || wrong && !reflect.DeepEqual(n, api.Core{}) {
			t.Fatalf("%+v\nerror %d, %+v", c, e, n)
		}
		if e == api.OK {
			right++
			ins := m.ticks(c, 6)
			want, _ := core.Run(c, ins)
			if got, e := core.Run(n, ins); e != api.OK || !same(got, want) {
				t.Fatalf("%+v\n%+v\nerror %d, %v, not %v", c, n, e, got, want)
			}
		}
	}
	if right < 1000 || right > 19000 {
		t.Error(right)
	}
}

// TestP1402Round: an expression that is within itself has no end; it is refused.
func TestP1402Round(t *testing.T) {
	kids := make([]api.CExp, 1)
	kids[0] = api.CExp{Form: api.EUn, Sub: api.OpNeg, Kids: kids}
	c := program("x.i8", "y.i8", "", def("y", kids[0]))
	if _, e := normal.Make(c); e != api.ErrForm || normal.Is(c) {
		t.Errorf("error %d", e)
	}
}

// TestP1402Clocks: parts on the longest clocks.
func TestP1402Clocks(t *testing.T) {
	c := program("b.bool", "y.i8", "", def("y", lit(api.I8, 0)))
	clock, last := []api.Edge{{Name: "b", On: true}}, "b"
	for i := range 490 {
		v := api.CVar{Name: "l" + string(rune('a'+i/26)) + string(rune('a'+i%26)), Kind: api.Bool, Clock: slices.Clone(clock)}
		c.Locals = append(c.Locals, v)
		c.Eqs = append(c.Eqs, def(v.Name, un(api.OpNot, when(merge(last, un(api.OpNot, lit(api.Bool, 1)), lit(api.Bool, 1)), last, 1))))
		clock, last = append(clock, api.Edge{Name: v.Name, On: true}), v.Name
	}
	means(t, c, [][]int{{1}, {0}, {1}})
}

// spoil changes something: a number, a name, a list.
func spoil(r *rand.Rand, v reflect.Value) {
	var spots []reflect.Value
	var walk func(reflect.Value)
	walk = func(v reflect.Value) {
		switch v.Kind() {
		case reflect.Struct:
			for i := range v.NumField() {
				walk(v.Field(i))
			}
		case reflect.Slice:
			spots = append(spots, v)
			for i := range v.Len() {
				walk(v.Index(i))
			}
		default:
			spots = append(spots, v)
		}
	}
	walk(v)
	v = spots[r.Intn(len(spots))]
	switch v.Kind() {
	case reflect.Int:
		v.SetInt([]int64{math.MinInt, -1, 0, 1, 2, 3, 4, 5, 6, 7, 9, 10, 11, 12, 16, 1 << 30, math.MaxInt, 64, 65}[r.Intn(19)])
	case reflect.String:
		v.SetString([]string{"", "x0", "x1", "x2", "y0", "y1", "l0", "l1", "l2", "l3", "nobody"}[r.Intn(11)])
	case reflect.Bool:
		v.SetBool(!v.Bool())
	case reflect.Slice:
		if v.Len() > 0 && r.Intn(2) == 0 {
			v.Set(v.Slice(0, v.Len()-1))
		} else if v.Len() > 0 {
			v.Set(reflect.Append(v.Slice3(0, v.Len(), v.Len()), v.Index(r.Intn(v.Len()))))
		}
	}
}

// roomy is a copy whose lists have spare room.
func roomy(v reflect.Value) reflect.Value {
	out := reflect.New(v.Type()).Elem()
	switch v.Kind() {
	case reflect.Struct:
		for i := range v.NumField() {
			out.Field(i).Set(roomy(v.Field(i)))
		}
	case reflect.Slice:
		out.Set(reflect.MakeSlice(v.Type(), v.Len(), v.Len()+2))
		for i := range v.Len() {
			out.Index(i).Set(roomy(v.Index(i)))
		}
	default:
		out.Set(v)
	}
	return out
}

// whole is a copy; its lists may have the spare room in them.
func whole(v reflect.Value, room bool) reflect.Value {
	out := reflect.New(v.Type()).Elem()
	switch v.Kind() {
	case reflect.Struct:
		for i := range v.NumField() {
			out.Field(i).Set(whole(v.Field(i), room))
		}
	case reflect.Slice:
		all := v
		if room {
			all = v.Slice(0, v.Cap())
		}
		for i := range all.Len() {
			out.Set(reflect.Append(out, whole(all.Index(i), room)))
		}
	default:
		out.Set(v)
	}
	return out
}

// scribble writes over all that is there, in spare room, too.
func scribble(v reflect.Value) {
	switch v.Kind() {
	case reflect.Struct:
		for i := range v.NumField() {
			scribble(v.Field(i))
		}
	case reflect.Slice:
		all := v.Slice(0, v.Cap())
		for i := range all.Len() {
			scribble(all.Index(i))
		}
	case reflect.Int:
		v.SetInt(77)
	case reflect.String:
		v.SetString("scribbled")
	case reflect.Bool:
		v.SetBool(!v.Bool())
	}
}
