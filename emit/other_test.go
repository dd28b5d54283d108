package emit_test

import (
	"math"
	"math/rand"
	"reflect"
	"slices"
	"strconv"
	"sync"
	"testing"

	"metronome/api"
	"metronome/emit"
	"metronome/exec"
	"metronome/obc"
)

// TestP2001Oracle: of made step code all that is promised holds, and what is refused of ticks is the same.
func TestP2001Oracle(t *testing.T) {
	seen := map[int]int{}
	for seed := range 8000 {
		m := newMaker(seed)
		s := m.step()
		c := emitted(t, s, m.ticks(s, 12))
		for _, in := range c.Body {
			seen[in.Op]++
		}
		if len(s.Ins) > 0 {
			ins := m.ticks(s, 5)
			place := m.r.Intn(5)
			switch m.r.Intn(3) {
			case 0:
				ins[place][0] = pick(m, []int{math.MaxInt, math.MinInt, 2, -1, 128})
			case 1:
				ins[place] = ins[place][1:]
			case 2:
				ins[place] = append(ins[place], 0)
			}
			emitted(t, s, ins)
		}
	}
	for op := api.IPush; op <= api.IEnd; op++ {
		if seen[op] < 5000 {
			t.Error(seen)
		}
	}
	emitted(t, step("a.i8", "y.i8", "", "", set("y", ref("a"))), slices.Repeat([][]int{{1}}, 1001))
}

// TestP2001Deep: made step code of one expression, as long and as deep as may be.
func TestP2001Deep(t *testing.T) {
	made, full, lent := 0, 0, 0
	for seed := range 3000 {
		m := newMaker(seed)
		s := m.long(pick(m, []int{200, 400, 600, 900, 1200, 1600, 2000}))
		if obc.Check(s) != api.OK {
			if _, e := emit.Make(s); e != api.ErrForm {
				t.Fatalf("error %d", e)
			}
			continue
		}
		made++
		c := emitted(t, s, m.ticks(s, 6))
		if c.Stack == api.MaxStack {
			full++
		}
		if len(c.Kinds) > len(s.Ins)+len(s.Outs) {
			lent++
		}
	}
	if made < 1500 || full < 300 || lent < 200 {
		t.Error(made, full, lent)
	}
}

// full is an expression that can't be worked out with fewer values on the stack.
func full(high, seed int) api.CExp {
	if high == 1 {
		return abc(seed + seed/4)
	}
	return bin(api.OpAdd, full(high-1, 2*seed), full(high-1, 2*seed+1))
}

// nest is an expression in which slots must be lent while others are, if there is no more room on the stack.
func nest(room int) api.CExp {
	first := un(api.OpNot, ref("a"))
	if room > 2 {
		first = bin(api.OpXor, ref("b"), nest(room-1))
	}
	return bin(api.OpMod, first, full(room, room))
}

// TestP2001Lent: slots that are lent at the same time are several ones, those that are given back are used again.
func TestP2001Lent(t *testing.T) {
	for kind := api.I8; kind <= api.U64; kind++ {
		m := newMaker(kind)
		for room := 2; room <= 9; room++ {
			e := nest(room)
			for i := range api.MaxStack - room {
				e = bin(api.OpXor, abc(i), e)
			}
			s := three(kind, kind, set("y", e), set("y", bin(api.OpAdd, e, ref("y"))))
			c := emitted(t, s, m.ticks(s, 20))
			if c.Stack != api.MaxStack || len(c.Kinds) != 4+room-1 {
				t.Errorf("room %d: stack %d, %d slots", room, c.Stack, len(c.Kinds))
			}
		}
		s := three(kind, kind, set("y", full(10, 1)))
		if c := emitted(t, s, m.ticks(s, 5)); c.Stack != 10 || len(c.Kinds) != 4 {
			t.Errorf("stack %d, %d slots", c.Stack, len(c.Kinds))
		}
	}
	// of several kinds, within one another and in conditions
	deep := chain(api.OpMod, api.I8, 100, true)
	wide := cast(api.I16, deep)
	for i := range 80 {
		wide = bin(api.OpShr, cast(api.I16, abc(i)), wide)
	}
	e := choose(bin(api.OpLt, wide, cast(api.I16, ref("a"))), chain(api.OpDiv, api.I8, 120, true), bin(api.OpSub, deep, cast(api.I8, wide)))
	s := three(api.I8, api.I8, fork(bin(api.OpLe, e, ref("a")), list(set("y", e)), list(set("y", un(api.OpNot, e)))))
	emitted(t, s, newMaker(1).ticks(s, 300))
}

// nested is a statement with others within it, so deep.
func nested(s api.Stmt, deep int) api.Stmt {
	for i := range deep - 1 {
		if i%2 == 0 {
			s = fork(ref("b"), list(s), list(set("y", lit(api.I8, i%100))))
		} else {
			s = fork(ref("c"), list(set("y", ref("x"))), list(s))
		}
	}
	return s
}

// TestP2001Never: step code of a Size of at most 3,000, with expressions at most 30 deep, is never too long, whatever it is made of.
func TestP2001Never(t *testing.T) {
	m := newMaker(0)
	many := func(ahead string, count int) (all []api.CVar) {
		for i := range count {
			all = append(all, api.CVar{Name: ahead + strconv.Itoa(i), Kind: api.U64})
		}
		return all
	}
	plain := api.Step{Ins: many("x", 1), Outs: many("y", 1), Vars: many("v", 7998)}
	for i := range 1000 {
		plain.Body = append(plain.Body, set("v"+strconv.Itoa(i), bin(api.OpDiv, ref("v"+strconv.Itoa(i+1)), ref("x0")))) // 4 of the Size
	}
	plain.Body = plain.Body[:750]
	emitted(t, plain, m.ticks(plain, 2))
	wide := api.Step{Ins: many("x", 8000)}
	emitted(t, wide, m.ticks(wide, 2))
	forks := step("x.i8 b.bool c.bool", "y.i8", "", "", slices.Repeat(list(fork(ref("b"), list(set("y", ref("x"))), list(set("y", ref("y"))))), 500)...) // 6 of the Size
	emitted(t, forks, m.ticks(forks, 3))
	bare := step("x.i8 b.bool c.bool", "y.i8", "", "", slices.Repeat(list(fork(choose(ref("b"), ref("c"), ref("b")), nil, nil)), 600)...) // 5 of the Size
	emitted(t, bare, m.ticks(bare, 3))
	inner := step("x.i8 b.bool c.bool", "y.i8", "", "", nested(set("y", ref("x")), 400))
	emitted(t, inner, m.ticks(inner, 30))
	for seed := range 400 {
		m := newMaker(seed)
		s := m.start()
		for size := 0; ; {
			v := pick(m, s.Outs)
			next := set(v.Name, m.ragged(v.Kind, 30, 1+m.r.Intn(600)))
			if m.r.Intn(3) == 0 {
				next = fork(m.ragged(api.Bool, 30, 1+m.r.Intn(300)), list(next), list(next))
			}
			size += obc.Size(api.Step{Body: list(next)})
			if size > 3000 {
				break
			}
			s.Body = append(s.Body, next)
		}
		emitted(t, s, m.ticks(s, 3))
	}
}

// ragged is an expression of at most that many parts, at most so deep.
func (m *maker) ragged(kind, deep, size int) api.CExp {
	if deep < 2 || size < 4 {
		return m.exp(kind, 0)
	}
	rest := size - 1
	less := pick(m, []int{1, 1, rest / 2, 1 + m.r.Intn(rest-1)})
	op, of := m.operation(kind)
	switch m.r.Intn(6) {
	case 0:
		return choose(m.ragged(api.Bool, deep-1, rest/3), m.ragged(kind, deep-1, rest/3), m.ragged(kind, deep-1, rest/3))
	case 1:
		return bin(op, m.ragged(of, deep-1, rest-less), m.ragged(of, deep-1, less))
	}
	return bin(op, m.ragged(of, deep-1, less), m.ragged(of, deep-1, rest-less))
}

// TestP2001Bounds: what has more instructions or slots than code.Check takes is ErrLong, what has as many is not.
func TestP2001Bounds(t *testing.T) {
	short, long := set("y", ref("x")), set("y", bin(api.OpAdd, ref("y"), ref("x"))) // two instructions, and four
	of := func(body ...api.Stmt) api.Step { return step("x.i8 b.bool c.bool", "y.i8", "", "", body...) }
	ins := [][]int{{1, 0, 1}, {5, 1, 1}}
	refused := func(s api.Step) {
		t.Helper()
		if c, e := emit.Make(s); e != api.ErrLong || !reflect.DeepEqual(c, api.Code{}) {
			t.Errorf("%d instructions, error %d", len(c.Body), e)
		}
	}
	if c := emitted(t, of(slices.Repeat(list(short), 20000)...), ins); len(c.Body) != 40001 {
		t.Error(len(c.Body))
	}
	all := slices.Repeat(list(long), 14999)
	last := set("y", un(api.OpNeg, ref("x")))
	if c := emitted(t, of(append(slices.Clone(all), last)...), ins); len(c.Body) != api.MaxCode {
		t.Error(len(c.Body))
	}
	refused(of(append(slices.Clone(all), long)...)) // only the IEnd is too much
	refused(of(slices.Repeat(list(long), 20000)...))
	refused(of(slices.Repeat(list(fork(ref("b"), list(long), list(long))), 6666)...))
	refused(of(nested(fork(ref("b"), slices.Repeat(list(long), 10000), slices.Repeat(list(long), 9000)), 200)))
	refused(of(slices.Repeat(list(set("y", lengthy(2000))), 2000)...))
	refused(of(nested(fork(bin(api.OpEq, lengthy(1990), ref("x")), slices.Repeat(list(set("y", lengthy(2000))), 31), nil), 399)))
}

// lengthy is an expression of x of that many parts, or one fewer.
func lengthy(size int) api.CExp {
	if size < 3 {
		return ref("x")
	}
	return bin(api.OpSub, lengthy(size/2), lengthy(size-1-size/2))
}

// TestP2001Slots: as many names as may be; a name that nothing names leaves room for a slot that is lent.
func TestP2001Slots(t *testing.T) {
	s := step("x.i8", "y.i8", "", "")
	for i := range 7998 {
		name := "v" + strconv.Itoa(i)
		s.Vars = append(s.Vars, api.CVar{Name: name, Kind: api.I8})
		s.Body = append(s.Body, set(name, ref("x")))
	}
	ins := [][]int{{1}, {-5}, {77}}
	if c := emitted(t, s, ins); len(c.Kinds) != api.MaxCells {
		t.Error(len(c.Kinds))
	}
	deep := func(op int) api.Stmt {
		e := ref("x")
		for i := range 399 {
			e = bin(op, ref("v"+strconv.Itoa(i)), e)
		}
		return set("y", e)
	}
	for _, op := range []int{api.OpAdd, api.OpSub, api.OpMul, api.OpAnd, api.OpOr, api.OpXor} {
		more := s
		more.Body = append(slices.Clone(s.Body), deep(op))
		if c := emitted(t, more, ins); len(c.Kinds) != api.MaxCells || c.Stack != api.MaxStack {
			t.Error(len(c.Kinds), c.Stack)
		}
	}
	for _, op := range []int{api.OpDiv, api.OpMod, api.OpShl, api.OpShr} {
		more := s
		more.Body = append(slices.Clone(s.Body[:7997]), deep(op), deep(op))
		if c := emitted(t, more, ins); len(c.Kinds) != api.MaxCells || c.Stack != api.MaxStack {
			t.Error(len(c.Kinds), c.Stack)
		}
		more.Body = append(slices.Clone(s.Body), deep(op))
		if c, e := emit.Make(more); e != api.ErrLong || !reflect.DeepEqual(c, api.Code{}) {
			t.Errorf("%d slots, error %d", len(c.Kinds), e)
		}
	}
}

// spoil changes something: a number, a name, a list.
func spoil(r *rand.Rand, v reflect.Value) {
	var spots []reflect.Value
	var walk func(reflect.Value)
	walk = func(v reflect.Value) {
		switch v.Kind() {
		case reflect.Struct:
			for i := range v.NumField() {
				walk(v.Field(i))
			}
		case reflect.Slice:
			spots = append(spots, v)
			for i := range v.Len() {
				walk(v.Index(i))
			}
		default:
			spots = append(spots, v)
		}
	}
	walk(v)
	v = spots[r.Intn(len(spots))]
	switch v.Kind() {
	case reflect.Int:
		v.SetInt([]int64{math.MinInt, -1, 0, 1, 2, 3, 4, 5, 6, 7, 9, 10, 11, 12, 16, 1 << 30, math.MaxInt, 64, 65}[r.Intn(19)])
	case reflect.String:
		v.SetString([]string{"", "x0", "x1", "x2", "y0", "y1", "l0", "l1", "l2", "c0", "c1", "nobody"}[r.Intn(12)])
	case reflect.Bool:
		v.SetBool(!v.Bool())
	case reflect.Slice:
		if v.Len() > 0 && r.Intn(2) == 0 {
			v.Set(v.Slice(0, v.Len()-1))
		} else if v.Len() > 0 {
			v.Set(reflect.Append(v.Slice3(0, v.Len(), v.Len()), v.Index(r.Intn(v.Len()))))
		}
	}
}

// TestP2001Wrong: of step code that was spoilt there is code, or ErrForm, as obc.Check says.
func TestP2001Wrong(t *testing.T) {
	right := 0
	for seed := range 8000 {
		m := newMaker(seed)
		s := m.step()
		for range 1 + m.r.Intn(3) {
			spoil(m.r, reflect.ValueOf(&s).Elem())
		}
		if obc.Check(s) == api.OK {
			right++
			emitted(t, s, m.ticks(s, 5))
			continue
		}
		if c, e := emit.Make(s); e != api.ErrForm || !reflect.DeepEqual(c, api.Code{}) {
			t.Fatalf("%+v\nerror %d, %+v", s, e, c)
		}
	}
	if right < 500 || right > 7500 {
		t.Error(right)
	}
}

func junkList(list []api.Stmt) {
	for i := range list {
		s := &list[i]
		junkExp(&s.E)
		if s.Form == api.SIf {
			s.Name = "y" + strconv.Itoa(i)
			junkList(s.Then)
			junkList(s.Else)
			continue
		}
		s.Then, s.Else = []api.Stmt{{Form: 77}}, slices.Repeat([]api.Stmt{{Name: "nobody"}}, 3)
	}
}

func junkExp(e *api.CExp) {
	for i := range e.Kids {
		junkExp(&e.Kids[i])
	}
	if e.Form != api.EVar {
		e.Name = "l" + strconv.Itoa(e.N&1)
	}
	if e.Form != api.EUn && e.Form != api.EBin {
		e.Sub = -5
	}
	if e.Form != api.ELit && e.Form != api.ECast {
		e.Kind = 55
	}
	if e.Form != api.ELit {
		e.N = 1<<40 + len(e.Kids)
	}
}

// copied is a copy that shares nothing.
func copied[T any](v T) T { return whole(reflect.ValueOf(v), false).Interface().(T) }

// TestP2001Fields: what a form does not have is not looked at.
func TestP2001Fields(t *testing.T) {
	for seed := range 1000 {
		s := newMaker(seed).step()
		want, _ := emit.Make(s)
		odd := copied(s)
		for _, list := range [][]api.CVar{odd.Ins, odd.Outs, odd.Vars} {
			for i := range list {
				list[i].Clock = []api.Edge{{Name: "nobody"}, {Name: "x0", On: true}}
			}
		}
		junkList(odd.Body)
		if got, e := emit.Make(odd); e != api.OK || !reflect.DeepEqual(got, want) {
			t.Fatalf("%+v\nerror %d, %+v, not %+v", odd, e, got, want)
		}
	}
}

func codeOf(s api.Step) api.Code { c, _ := emit.Make(s); return c }

// some is made step code; of each third seed one of a long expression.
func some(seed int) api.Step {
	m := newMaker(seed)
	if seed%3 == 0 {
		return m.long(400)
	}
	return m.step()
}

// TestP2003Kept: step code that is handed in is neither changed nor kept, and what is answered is not, either.
func TestP2003Kept(t *testing.T) {
	for seed := range 600 {
		s := some(seed)
		given := roomy(reflect.ValueOf(s)).Interface().(api.Step)
		ahead := whole(reflect.ValueOf(given), true).Interface()
		c, e := emit.Make(given)
		if !reflect.DeepEqual(whole(reflect.ValueOf(given), true).Interface(), ahead) {
			t.Fatalf("%+v, no longer %+v", given, ahead)
		}
		want := copied(c)
		scribble(reflect.ValueOf(&given).Elem())
		if !reflect.DeepEqual(copied(c), want) {
			t.Fatalf("%+v, no longer %+v", c, want)
		}
		scribble(reflect.ValueOf(&c).Elem())
		if again, f := emit.Make(s); f != e || !reflect.DeepEqual(copied(again), want) {
			t.Fatalf("%+v, then %+v", want, again)
		}
	}
}

// TestP2003New: no two lists of an answer share memory.
func TestP2003New(t *testing.T) {
	for seed := range 300 {
		c := codeOf(some(seed))
		want := copied(c)
		for i := range c.Kinds[:cap(c.Kinds)] {
			c.Kinds[:cap(c.Kinds)][i] = 77
		}
		if !slices.Equal(c.Init, want.Init) || !slices.Equal(c.Body, want.Body) {
			t.Fatalf("%+v, no longer %+v", c, want)
		}
		for i := range c.Init[:cap(c.Init)] {
			c.Init[:cap(c.Init)][i] = 78
		}
		if slices.Contains(c.Kinds, 78) || !slices.Equal(c.Body, want.Body) {
			t.Fatalf("%+v, no longer %+v", c, want)
		}
	}
}

// TestP2003Alone: what is answered does not hang on calls ahead, or at the same time.
func TestP2003Alone(t *testing.T) {
	for seed := range 100 {
		want := codeOf(some(seed))
		codeOf(some(seed + 1000))
		codeOf(api.Step{})
		codeOf(api.Step{Body: make([]api.Stmt, 1)})
		var all sync.WaitGroup
		for range 4 {
			all.Go(func() {
				if again := codeOf(some(seed)); !reflect.DeepEqual(again, want) {
					t.Errorf("%+v, then %+v", want, again)
				}
			})
		}
		all.Wait()
	}
	// a machine that runs code does not change it
	c := codeOf(some(1))
	want := copied(c)
	exec.Run(c, newMaker(1).ticks(some(1), 5))
	if !reflect.DeepEqual(copied(c), want) {
		t.Errorf("%+v, no longer %+v", c, want)
	}
}

// roomy is a copy whose lists have spare room.
func roomy(v reflect.Value) reflect.Value {
	out := reflect.New(v.Type()).Elem()
	switch v.Kind() {
	case reflect.Struct:
		for i := range v.NumField() {
			out.Field(i).Set(roomy(v.Field(i)))
		}
	case reflect.Slice:
		out.Set(reflect.MakeSlice(v.Type(), v.Len(), v.Len()+2))
		for i := range v.Len() {
			out.Index(i).Set(roomy(v.Index(i)))
		}
	default:
		out.Set(v)
	}
	return out
}

// whole is a copy; its lists may have the spare room in them.
func whole(v reflect.Value, room bool) reflect.Value {
	out := reflect.New(v.Type()).Elem()
	switch v.Kind() {
	case reflect.Struct:
		for i := range v.NumField() {
			out.Field(i).Set(whole(v.Field(i), room))
		}
	case reflect.Slice:
		all := v
		if room {
			all = v.Slice(0, v.Cap())
		}
		for i := range all.Len() {
			out.Set(reflect.Append(out, whole(all.Index(i), room)))
		}
	default:
		out.Set(v)
	}
	return out
}

// scribble writes over all that is there, in spare room, too.
func scribble(v reflect.Value) {
	switch v.Kind() {
	case reflect.Struct:
		for i := range v.NumField() {
			scribble(v.Field(i))
		}
	case reflect.Slice:
		all := v.Slice(0, v.Cap())
		for i := range all.Len() {
			scribble(all.Index(i))
		}
	case reflect.Int:
		v.SetInt(77)
	case reflect.String:
		v.SetString("scribbled")
	case reflect.Bool:
		v.SetBool(!v.Bool())
	}
}
