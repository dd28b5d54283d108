package arrays_test

import (
	"math/rand"
	"reflect"
	"slices"
	"strconv"
	"strings"
	"testing"

	"metronome/api"
	"metronome/arrays"
	"metronome/cause"
	"metronome/clocks"
	"metronome/first"
	"metronome/gram"
	"metronome/names"
	"metronome/show"
	"metronome/stream"
	asked "metronome/types"
)

// parsed is the program of a text, whose names and types must be right.
func parsed(t *testing.T, text string) api.Program {
	t.Helper()
	p, at, e := gram.Parse(text)
	if e != api.OK {
		t.Fatalf("%s: error %d at %d", text, e, at)
	}
	right(t, text, p)
	return p
}

func right(t *testing.T, text string, p api.Program) {
	t.Helper()
	if at, e := names.Check(p); e != api.OK {
		t.Fatalf("%s: names: error %d at %d", text, e, at)
	}
	if at, e := asked.Check(p); e != api.OK {
		t.Fatalf("%s: types: error %d at %d", text, e, at)
	}
}

// expanded is what a program has become: its names and types must be right, and it has no arrays.
func expanded(t *testing.T, text string, p api.Program) api.Program {
	t.Helper()
	q, e := arrays.Expand(p)
	if e != api.OK {
		t.Fatalf("%s: error %d", text, e)
	}
	right(t, text+"\nhas become\n"+show.Print(q), q)
	if hasArrays(reflect.ValueOf(q)) {
		t.Fatalf("%s\nhas become\n%s", text, show.Print(q))
	}
	return q
}

func hasArrays(v reflect.Value) bool {
	switch x := v.Interface().(type) {
	case api.Type:
		return x.Len != 0
	case api.Exp:
		if x.Form >= api.EArr {
			return true
		}
	}
	switch v.Kind() {
	case reflect.Struct:
		for i := range v.NumField() {
			if hasArrays(v.Field(i)) {
				return true
			}
		}
	case reflect.Slice:
		for i := range v.Len() {
			if hasArrays(v.Index(i)) {
				return true
			}
		}
	}
	return false
}

// becomes holds what the last node of a program has become; of its text, line ends and the blanks at them don't count.
func becomes(t *testing.T, text, want string) {
	t.Helper()
	q := expanded(t, text, parsed(t, helpers+text))
	q.Nodes = q.Nodes[len(q.Nodes)-1:]
	if got := strings.Join(strings.Fields(show.Print(q)), " "); got != want {
		t.Errorf("%s\nhas become\n%s\nnot\n%s", text, got, want)
	}
}

func TestP701Example(t *testing.T) {
	becomes(t, "node f(a: i8^2) returns (s: i8) let s = fold(add, 0i8, a); tel",
		"node f(a__0: i8; a__1: i8) returns (s: i8) let s = add(add(0i8, a__0), a__1); tel")
}

func TestP701Forms(t *testing.T) {
	for text, want := range map[string]string{
		// no arrays
		"(x: i8) returns (y: i8) let y = -x + 1i8; tel":                                        "(x: i8) returns (y: i8) let y = ((- x) + 1i8); tel",
		"(x: i8^0) returns (y: i8) let y = x; tel":                                             "(x: i8) returns (y: i8) let y = x; tel",
		"(c: bool) returns (y: u8) let y = merge(c, cast(u8, when(c, c)), 0u8 fby 3u8); tel":   "(c: bool) returns (y: u8) let y = merge(c, cast(u8, when(c, c)), (0u8 fby 3u8)); tel",
		"(c: bool) returns (y: bool) let y = if tick(3, 1) then true -> pre c else not c; tel": "(c: bool) returns (y: bool) let y = (if tick(3, 1) then (true -> (pre c)) else (not c)); tel",
		"(c: bool) returns (y: i8; d: bool) let (y, d) = both(1i8, c); tel":                    "(c: bool) returns (y: i8; d: bool) let (y, d) = both(1i8, c); tel",
		"(x: i8; c: bool) returns (y: i8) let y = reset(acc(x), c) + acc(1i8); tel":            "(x: i8; c: bool) returns (y: i8) let y = (reset(acc(x), c) + acc(1i8)); tel",
		// elements of variables, lists of elements
		"(a: i8^2) returns (b: i8^2) let b = a; tel":                     "(a__0: i8; a__1: i8) returns (b__0: i8; b__1: i8) let b__0 = a__0; b__1 = a__1; tel",
		"(a: u16^1) returns (b: u16^1; y: u16) let b = a; y = b[0]; tel": "(a__0: u16) returns (b__0: u16; y: u16) let b__0 = a__0; y = b__0; tel",
		"(a: i8^3) returns (y: i8) let y = a[2] - a[0]; tel":             "(a__0: i8; a__1: i8; a__2: i8) returns (y: i8) let y = (a__2 - a__0); tel",
		"(x: i8) returns (b: i8^2) let b = [x, 1i8]; tel":                "(x: i8) returns (b__0: i8; b__1: i8) let b__0 = x; b__1 = 1i8; tel",
		"(x: i8) returns (y: i8) let y = [x, -x, 1i8][1]; tel":           "(x: i8) returns (y: i8) let y = (- x); tel",
		"(x: i8) returns (b: i8^3) let b = rep(x, 3); tel":               "(x: i8) returns (b__0: i8; b__1: i8; b__2: i8) let b__0 = x; b__1 = x; b__2 = x; tel",
		"(x: i8) returns (y: i8) let y = rep(acc(x), 3)[2]; tel":         "(x: i8) returns (y: i8) let y = acc(x); tel",
		"(x: i8) returns (b: i8^1) let b = rep(acc(x), 1); tel":          "(x: i8) returns (b__0: i8) let b__0 = acc(x); tel",
		"(x: i8) returns (b: i8^2) let b = rep(acc(x), 2); tel":          "(x: i8) returns (b__0: i8; b__1: i8) var t__0: i8; let t__0 = acc(x); b__0 = t__0; b__1 = t__0; tel",
		// element by element
		"(a: i8^2) returns (b: i8^2) let b = [0i8, 1i8] -> pre a; tel":                           "(a__0: i8; a__1: i8) returns (b__0: i8; b__1: i8) let b__0 = (0i8 -> (pre a__0)); b__1 = (1i8 -> (pre a__1)); tel",
		"(a: i8^2) returns (b: i8^2) let b = a fby b; tel":                                       "(a__0: i8; a__1: i8) returns (b__0: i8; b__1: i8) let b__0 = (a__0 fby b__0); b__1 = (a__1 fby b__1); tel",
		"(a: i8^2; c: bool) returns (b: i8^2) let b = merge(c, when(a, c), when(a, not c)); tel": "(a__0: i8; a__1: i8; c: bool) returns (b__0: i8; b__1: i8) let b__0 = merge(c, when(a__0, c), when(a__0, not c)); b__1 = merge(c, when(a__1, c), when(a__1, not c)); tel",
		"(a: i8^2; c: bool) returns (b: i8^2) let b = if c then a else b fby a; tel":             "(a__0: i8; a__1: i8; c: bool) returns (b__0: i8; b__1: i8) let b__0 = (if c then a__0 else (b__0 fby a__0)); b__1 = (if c then a__1 else (b__1 fby a__1)); tel",
		"(a: i8^2; c: bool) returns (b: i8^2) let b = if true then a else a; tel":                "(a__0: i8; a__1: i8; c: bool) returns (b__0: i8; b__1: i8) let b__0 = (if true then a__0 else a__0); b__1 = (if true then a__1 else a__1); tel",
		"(a: i8^2) returns (b: i8^2) let b = if a[0] > 1i8 then a else [2i8, 3i8]; tel":          "(a__0: i8; a__1: i8) returns (b__0: i8; b__1: i8) var t__0: bool; let t__0 = (a__0 > 1i8); b__0 = (if t__0 then a__0 else 2i8); b__1 = (if t__0 then a__1 else 3i8); tel",
		"(a: i8^2) returns (y: i8) let y = (if a[0] > 1i8 then a else [2i8, 3i8])[1]; tel":       "(a__0: i8; a__1: i8) returns (y: i8) let y = (if (a__0 > 1i8) then a__1 else 3i8); tel",
		// calls
		"(a: i8^2) returns (b: i8^2) let b = map(add, a, [1i8, 2i8]); tel":                                             "(a__0: i8; a__1: i8) returns (b__0: i8; b__1: i8) let b__0 = add(a__0, 1i8); b__1 = add(a__1, 2i8); tel",
		"(a: i8^2) returns (y: i8) let y = map(acc, a)[1]; tel":                                                        "(a__0: i8; a__1: i8) returns (y: i8) let y = acc(a__1); tel",
		"(a: i8^3) returns (y: i8) let y = fold(add, a[0], map(acc, a)); tel":                                          "(a__0: i8; a__1: i8; a__2: i8) returns (y: i8) let y = add(add(add(a__0, acc(a__0)), acc(a__1)), acc(a__2)); tel",
		"(a: i8^3) returns (y: i8) let y = total(a); tel":                                                              "(a__0: i8; a__1: i8; a__2: i8) returns (y: i8) let y = total(a__0, a__1, a__2); tel",
		"(a: i8^2; c: bool) returns (b: i8^2) let b = reset(swap(a), c); tel":                                          "(a__0: i8; a__1: i8; c: bool) returns (b__0: i8; b__1: i8) let (b__0, b__1) = reset(swap(a__0, a__1), c); tel",
		"(x: i8) returns (b: i8^3; c: bool) let (b, c) = spread(x, true); tel":                                         "(x: i8) returns (b__0: i8; b__1: i8; b__2: i8; c: bool) let (b__0, b__1, b__2, c) = spread(x, true); tel",
		"(a: i8^2) returns (y: i8) let y = swap(swap(a))[1]; tel":                                                      "(a__0: i8; a__1: i8) returns (y: i8) var t__0: i8; t__1: i8; t__2: i8; t__3: i8; let (t__0, t__1) = swap(a__0, a__1); (t__2, t__3) = swap(t__0, t__1); y = t__3; tel",
		"(x: u16) returns (y: u16) let y = only(x)[0]; tel":                                                            "(x: u16) returns (y: u16) let y = only(x); tel",
		"(x: i8) returns (b: i8^2) let b = [0i8, 0i8] -> pre swap(b); tel":                                             "(x: i8) returns (b__0: i8; b__1: i8) var t__0: i8; t__1: i8; let (t__0, t__1) = swap(b__0, b__1); b__0 = (0i8 -> (pre t__0)); b__1 = (0i8 -> (pre t__1)); tel",
		"(a: i8^2) returns (b: bool^2) let b = rep(map(less, a, a)[1] or fold(either, true, map(less, a, a)), 2); tel": "(a__0: i8; a__1: i8) returns (b__0: bool; b__1: bool) var t__0: bool; let t__0 = (less(a__1, a__1) | either(either(true, less(a__0, a__0)), less(a__1, a__1))); b__0 = t__0; b__1 = t__0; tel",
		"(a: i8^2) returns (b: bool^2) let b = rep(map(less, a, a)[1], 2); tel":                                        "(a__0: i8; a__1: i8) returns (b__0: bool; b__1: bool) var t__0: bool; let t__0 = less(a__1, a__1); b__0 = t__0; b__1 = t__0; tel",
		"(x: i8) returns (b: u8^2) let b = rep(cast(u8, x), 2); tel":                                                   "(x: i8) returns (b__0: u8; b__1: u8) var t__0: u8; let t__0 = cast(u8, x); b__0 = t__0; b__1 = t__0; tel",
		"(x: i8) returns (b: bool^2) let b = rep(tick(2, 1), 2); tel":                                                  "(x: i8) returns (b__0: bool; b__1: bool) var t__0: bool; let t__0 = tick(2, 1); b__0 = t__0; b__1 = t__0; tel",
		// new locals on clocks; those that are late
		"(a: i8^2; c: bool) returns (y: i8) var z: i8 when c; let z = swap([1i8, 2i8])[0]; y = merge(c, z, 0i8); tel":                          "(a__0: i8; a__1: i8; c: bool) returns (y: i8) var z: i8 when c; t__0: i8 when c; t__1: i8 when c; let (t__0, t__1) = swap(1i8, 2i8); z = t__0; y = merge(c, z, 0i8); tel",
		"(c: bool) returns (y: i8) let y = merge(c, swap([1i8, 2i8])[0], when(swap([3i8, 4i8])[1], not c)); tel":                               "(c: bool) returns (y: i8) var t__0: i8 when c; t__1: i8 when c; t__2: i8; t__3: i8; let (t__0, t__1) = swap(1i8, 2i8); (t__2, t__3) = swap(3i8, 4i8); y = merge(c, t__0, when(t__3, not c)); tel",
		"(c: bool) returns (y: i8) var e: bool when not c; let e = when(c, not c); y = merge(c, 0i8, merge(e, 1i8, swap([3i8, 4i8])[1])); tel": "(c: bool) returns (y: i8) var e: bool when not c; t__0: i8 when not c and not e; t__1: i8 when not c and not e; let e = when(c, not c); (t__0, t__1) = swap(3i8, 4i8); y = merge(c, 0i8, merge(e, 1i8, t__1)); tel",
		"(x: i8) returns (b: i8^2) let b = rep(0i8, 2) -> rep(pre x + 1i8, 2); tel":                                                            "(x: i8) returns (b__0: i8; b__1: i8) var t__0: i8; let t__0 = (0i8 -> ((pre x) + 1i8)); b__0 = (0i8 -> t__0); b__1 = (0i8 -> t__0); tel",
		"(c: bool) returns (b: bool^2) let b = rep(c, 2) -> (if pre c then rep(c, 2) else rep(true, 2)); tel":                                  "(c: bool) returns (b__0: bool; b__1: bool) var t__0: bool; let t__0 = (false -> (pre c)); b__0 = (c -> (if t__0 then c else true)); b__1 = (c -> (if t__0 then c else true)); tel",
		"(x: i8) returns (b: i8^2) let b = rep(0i8 fby x, 2); tel":                                                                             "(x: i8) returns (b__0: i8; b__1: i8) var t__0: i8; let t__0 = (0i8 fby x); b__0 = t__0; b__1 = t__0; tel",
	} {
		becomes(t, "node f"+text, "node f"+want)
	}
}

func TestP701States(t *testing.T) {
	for text, want := range map[string]string{
		"(a: i8^2; c: bool) returns (b: i8^2) let automaton state A do b = a; until a[0] > 1i8 then B; state B unless [c, not c][1] continue A; do b = swap(a); end tel": "(a__0: i8; a__1: i8; c: bool) returns (b__0: i8; b__1: i8) let automaton state A do b__0 = a__0; b__1 = a__1; until (a__0 > 1i8) then B; state B unless (not c) continue A; do (b__0, b__1) = swap(a__0, a__1); end tel",
		"(a: i8^2) returns (y: i8) let automaton state A var l: i8^2; do l = a; y = l[1] + swap(l)[0]; until l[0] = 0i8 then A; end tel":                                 "(a__0: i8; a__1: i8) returns (y: i8) let automaton state A var l__0: i8; l__1: i8; t__0: i8; t__1: i8; do l__0 = a__0; l__1 = a__1; (t__0, t__1) = swap(l__0, l__1); y = (l__1 + t__0); until (l__0 = 0i8) then A; end tel",
		"(c: bool) returns (y: i8) let automaton state A var l: i8 when c; do l = swap([1i8, 2i8])[0]; y = merge(c, l, 0i8); end tel":                                    "(c: bool) returns (y: i8) let automaton state A var l: i8 when c; t__0: i8 when c; t__1: i8 when c; do (t__0, t__1) = swap(1i8, 2i8); l = t__0; y = merge(c, l, 0i8); end tel",
		// of conditions one element is asked for: they need no new locals
		"(a: bool^2; c: bool) returns (y: i8) let automaton state A unless (if a[0] and c then a else rep(not c, 2))[1] then A; do y = 1i8; until rep(c or c, 2)[0] then A; end tel": "(a__0: bool; a__1: bool; c: bool) returns (y: i8) let automaton state A unless (if (a__0 & c) then a__1 else (not c)) then A; do y = 1i8; until (c | c) then A; end tel",
		// an automaton in a state, and an equation behind it
		"(x: i8) returns (b: i8^2; y: i8) let automaton state A do automaton state B var l: i8^2; do l = rep(acc(x), 2); b = l; end y = rep(acc(x), 2)[1] + total(rep(acc(x), 3)); end tel": "(x: i8) returns (b__0: i8; b__1: i8; y: i8) let automaton state A var t__1: i8; do automaton state B var l__0: i8; l__1: i8; t__0: i8; do t__0 = acc(x); l__0 = t__0; l__1 = t__0; b__0 = l__0; b__1 = l__1; end t__1 = acc(x); y = (acc(x) + total(t__1, t__1, t__1)); end tel",
		// names of one state's locals in another one
		"(x: i8) returns (y: i8) let automaton state A var l: i8^2; do l = [x, 1i8]; y = l[0]; state B var l: bool; do l = true; y = if l then x else 0i8; state C var l: i8^1; do l = [x]; y = l[0]; end tel": "(x: i8) returns (y: i8) let automaton state A var l__0: i8; l__1: i8; do l__0 = x; l__1 = 1i8; y = l__0; state B var l: bool; do l = true; y = (if l then x else 0i8); state C var l__0: i8; do l__0 = x; y = l__0; end tel",
	} {
		becomes(t, "node f"+text, "node f"+want)
	}
}

// TestP701Places: what has become of a part is where that part was.
func TestP701Places(t *testing.T) {
	text := "node g(a: i8^2) returns (b: i8^2) let b = a; tel node f(x: i8; a: i8^2) returns (b: i8^2) var l: i8; let l = 0i8; automaton state A unless a[1] = x then A; var m: i8^2; do m = g(a); b = rep(-x, 2); end tel"
	p := parsed(t, text)
	p.Nodes[1].Items[1].States[0].Unless[0].At = 777
	n := expanded(t, text, p).Nodes[1]
	s := n.Items[1].States[0]
	for what, got := range map[string][]int{
		"node f":    {n.At},
		"b: i8^2)":  {n.Outs[0].At, n.Outs[1].At},
		"l: i8;":    {n.Locals[0].At},
		"l = 0i8":   {n.Items[0].At},
		"0i8":       {n.Items[0].E.At},
		"automaton": {n.Items[1].At},
		"state A":   {s.At},
		"a[1]":      {s.Unless[0].Cond.At, s.Unless[0].Cond.Kids[0].At},
		"x then":    {s.Unless[0].Cond.Kids[1].At},
		"m: i8^2":   {s.Locals[0].At, s.Locals[1].At},
		"m = g":     {s.Items[0].At},
		"g(a)":      {s.Items[0].E.At},
		"a);":       {s.Items[0].E.Kids[0].At, s.Items[0].E.Kids[1].At},
		"b = rep":   {s.Items[2].At, s.Items[3].At},
		"-x":        {s.Items[1].E.At},
		"x, 2":      {s.Items[1].E.Kids[0].At},
	} {
		at := strings.LastIndex(text, what)
		if slices.ContainsFunc(got, func(is int) bool { return is != at }) {
			t.Errorf("%s: %v, not %d", what, got, at)
		}
	}
	if s.Unless[0].At != 777 {
		t.Errorf("the transition: %d", s.Unless[0].At)
	}
}

// TestP701Oracle: programs that have a meaning become such that mean the same, by the oracle, and by the layers behind this one.
func TestP701Oracle(t *testing.T) {
	for seed := range 1000 {
		m := &maker{r: rand.New(rand.NewSource(int64(seed)))}
		text := show.Print(m.program())
		p := parsed(t, text)
		if f := faults(p); len(f) > 0 {
			t.Fatalf("%s: %v", text, f)
		}
		q := expanded(t, text, p)
		if f := faults(q); len(f) > 0 {
			t.Fatalf("%s\nhas become\n%s: %v", text, show.Print(q), f)
		}
		if taken(p) && !taken(q) {
			t.Fatalf("%s\nhas become\n%s, which has no meaning", text, show.Print(q))
		}
		for _, n := range p.Nodes {
			ticks := m.ticks(n, 8)
			if want, got := meaning(p, n.Name, ticks), meaning(q, n.Name, ticks); !reflect.DeepEqual(got, want) {
				t.Fatalf("%s\nhas become\n%s: %s of %v: %v, not %v", text, show.Print(q), n.Name, ticks, got, want)
			}
			want, e := stream.Run(p, n.Name, ticks)
			got, f := stream.Run(q, n.Name, ticks)
			if taken(p) && e == api.OK && f == api.OK && !reflect.DeepEqual(got, want) {
				t.Fatalf("%s\nhas become\n%s: %s of %v: %v, not %v", text, show.Print(q), n.Name, ticks, got, want)
			}
		}
	}
}

// taken tells whether the checks behind this layer take a program.
func taken(p api.Program) bool {
	for _, check := range []func(api.Program) (int, api.Errno){clocks.Check, first.Check, cause.Check} {
		if _, e := check(p); e != api.OK {
			return false
		}
	}
	return true
}

// TestP701Interface: inputs and outputs stand for those of the program, element by element.
func TestP701Interface(t *testing.T) {
	for seed := range 200 {
		m := &maker{r: rand.New(rand.NewSource(int64(seed))), wild: seed%2 == 0}
		p := m.program()
		q := expanded(t, "", p)
		if len(q.Nodes) != len(p.Nodes) {
			t.Fatal(len(q.Nodes))
		}
		for i, n := range p.Nodes {
			is := q.Nodes[i]
			if is.Name != n.Name || !reflect.DeepEqual(is.Ins, apart(n.Ins)) || !reflect.DeepEqual(is.Outs, apart(n.Outs)) {
				t.Fatalf("%+v: %+v", n, is)
			}
			locals := apart(n.Locals)
			if len(is.Locals) < len(locals) || len(locals) > 0 && !reflect.DeepEqual(is.Locals[:len(locals)], locals) {
				t.Fatalf("%+v: %+v", n.Locals, is.Locals)
			}
		}
	}
}

func apart(vars []api.Var) (all []api.Var) {
	for _, v := range vars {
		if v.T.Len == 0 {
			all = append(all, v)
			continue
		}
		for i := range v.T.Len {
			all = append(all, api.Var{Name: v.Name + "__" + strconv.Itoa(i), T: kind(v.T.Kind), Clock: v.Clock, At: v.At})
		}
	}
	return all
}

// listed are names, a comma between.
func listed(ahead string, count int) string {
	var all []string
	for i := range count {
		all = append(all, ahead+strconv.Itoa(i))
	}
	return strings.Join(all, ", ")
}

func defined(ahead string, count int, value string) string {
	var all string
	for i := range count {
		all += ahead + strconv.Itoa(i) + " = " + value + "; "
	}
	return all
}

func TestP701Long(t *testing.T) {
	node := func(ins, outs, locals, inner int) string {
		return "node f(" + listed("a", ins) + ": i8^16) returns (" + listed("b", outs) + ": i8^16) var " + listed("l", locals) + ": i8; let " +
			defined("b", outs, "a0") + defined("l", locals-1, "a0[0]") +
			"automaton state A var " + listed("m", inner) + ": i8; do " + defined("m", inner, "a0[0]") + "l" + strconv.Itoa(locals-1) + " = a0[1]; end tel "
	}
	for text, want := range map[string]api.Errno{
		node(60, 60, 79, 1):  api.OK, // 2000 variables
		node(60, 60, 79, 2):  api.ErrLong,
		node(60, 60, 80, 1):  api.ErrLong,
		node(61, 60, 79, 1):  api.ErrLong,
		node(60, 61, 79, 1):  api.ErrLong,
		node(1, 1, 1, 1):     api.OK,
		node(200, 1, 1, 1):   api.ErrLong,
		node(100, 100, 1, 1): api.ErrLong,
		node(124, 1, 1, 1):   api.ErrLong,
		node(123, 1, 1, 1):   api.OK,
		// of a node: those of others don't count
		node(60, 60, 79, 1) + strings.Replace(node(60, 60, 79, 1), "node f", "node g", 1): api.OK,
		node(1, 1, 1, 1) + strings.Replace(node(60, 60, 79, 2), "node f", "node g", 1):    api.ErrLong,
		// it is asked for ahead of ErrTwice
		"node g(a: i8^2; a__1: bool) returns (s: i8) let s = a[0]; tel " + node(60, 60, 79, 2): api.ErrLong,
		node(60, 60, 79, 2) + "node g(a: i8^2; a__1: bool) returns (s: i8) let s = a[0]; tel ": api.ErrLong,
	} {
		p := parsed(t, text)
		q, e := arrays.Expand(p)
		if e != want || e != api.OK && len(q.Nodes) > 0 {
			t.Errorf("%.60s ..: error %d, %d nodes", text, e, len(q.Nodes))
		}
		if e == api.OK {
			expanded(t, text, p)
		}
	}
}

// TestP701Taken: what has as many elements as there may be is taken, whatever tells them.
func TestP701Taken(t *testing.T) {
	for _, value := range []string{
		"a0", "[@]", "rep(x, 16)", "rep(x + acc(x), 16)", "map(acc, a0)", "map(add, a0, map(acc, a0))", "if x > 0i8 then a0 else a1", "a0 fby a1", "a0 -> pre (if pre acc(x) = 0i8 then a0 else a1)", "same(same(a0))", "rep(fold(add, x, same(a0)), 16)",
	} {
		value = strings.ReplaceAll(value, "@", strings.TrimSuffix(strings.Repeat("x, ", 16), ", "))
		text := "node same(a: i8^16) returns (b: i8^16) let b = a; tel node f(x: i8; a0, a1: i8^16) returns (y: i8) var " + listed("l", 120) + ": i8^16; let y = x; " + defined("l", 120, value) + "tel"
		expanded(t, value, parsed(t, helpers+text))
	}
}

func parts(e api.Exp) int {
	count := 1
	for _, k := range e.Kids {
		count += parts(k)
	}
	return count
}

// TestP701Within: parts of arrays within one another don't multiply.
func TestP701Within(t *testing.T) {
	for _, around := range []string{
		"fold(add, 0i8, rep(@, 16))", "fold(add, @, rep(@, 16))", "total(rep(@, 3))", "rep(total(rep(@, 3)), 2)[1]", "total(if @ > 0i8 then [x, x, x] else rep(x, 3))", "fold(add, x, map(acc, rep(@, 16)))", "swap(rep(@, 2))[0]", "rep(fold(add, 0i8, rep(@, 16)), 16)[3]",
	} {
		e, deep := "x + 1i8", 0
		for strings.Count(around, "@") == 1 && deep < 12 || deep < 3 {
			e = strings.ReplaceAll(around, "@", e)
			deep++
		}
		text := helpers + "node f(x: i8) returns (y: i8; a: i8^3) let y = " + e + "; a = rep(x, 3); tel"
		p := parsed(t, text)
		n := expanded(t, text, p).Nodes[len(p.Nodes)-1]
		count := 0
		for _, i := range n.Items {
			count += parts(i.E)
		}
		if most := 20 * parts(p.Nodes[len(p.Nodes)-1].Items[0].E) * 2; count > most {
			t.Errorf("%s: %d parts, more than %d", around, count, most)
		}
		if want, got := meaning(p, "f", [][]int{{1}, {2}}), meaning(expanded(t, text, p), "f", [][]int{{1}, {2}}); deep < 4 && !reflect.DeepEqual(got, want) {
			t.Errorf("%s: %v, not %v", text, got, want)
		}
	}
}

func TestP702Name(t *testing.T) {
	for want, got := range map[string]string{
		"a__0": arrays.Name("a", 0), "a__12": arrays.Name("a", 12), "__3": arrays.Name("", 3), "a__1__2": arrays.Name("a__1", 2), "a__-4": arrays.Name("a", -4),
		"x__9223372036854775807": arrays.Name("x", 1<<63-1), "x__-9223372036854775808": arrays.Name("x", -1<<63), "\x00\xff__7": arrays.Name("\x00\xff", 7),
	} {
		if got != want {
			t.Errorf("%q, not %q", got, want)
		}
	}
}

func TestP702Twice(t *testing.T) {
	for text, want := range map[string]api.Errno{
		"node f(a: i8^2; a__1: bool) returns (s: i8) let s = a[0]; tel":                                                                                      api.ErrTwice,
		"node f(a: i8^2; a__2: bool) returns (s: i8) let s = a[0]; tel":                                                                                      api.OK,
		"node f(a__1: bool; a: i8^2) returns (s: i8) let s = a[0]; tel":                                                                                      api.ErrTwice,
		"node f(a: i8^2) returns (a__0: i8) let a__0 = a[1]; tel":                                                                                            api.ErrTwice,
		"node f(a: i8^2) returns (s: i8) var a__0: bool; let s = a[1]; a__0 = true; tel":                                                                     api.ErrTwice,
		"node f(a: i8^2; a__0: i8^2) returns (s: i8) let s = a[1] + a__0[1]; tel":                                                                            api.OK,
		"node f(a: i8^2; a__0: i8^2; a__0__1: i8) returns (s: i8) let s = a[1] + a__0[1]; tel":                                                               api.ErrTwice,
		"node f(x: i8) returns (y: i8; a: i8^1) let a = [x]; automaton state A var a__0: i8; do a__0 = x; y = a__0; end tel":                                 api.ErrTwice,
		"node f(x: i8) returns (y: i8; a__0: i8) let a__0 = x; automaton state A do y = x; state B var a: i8^1; do a = [x]; y = a[0]; end tel":               api.ErrTwice,
		"node f(x: i8) returns (y: i8) let automaton state A var a: i8^1; a__0: i8; do a = [x]; a__0 = x; y = x; end tel":                                    api.ErrTwice,
		"node f(x: i8) returns (y: i8) let automaton state A var a: i8^1; do a = [x]; y = a[0]; state B var a__0: i8; do a__0 = x; y = a__0; end tel":        api.OK,
		"node f(x: i8) returns (y: i8) let automaton state A var a: i8^1; do a = [x]; automaton state B var a__0: i8; do a__0 = x; y = a__0; end end tel":    api.ErrTwice,
		"node f(x: i8) returns (y: i8) let automaton state A var a__0: i8; do a__0 = x; automaton state B var a: i8^2; do a = [x, x]; y = a[1]; end end tel": api.ErrTwice,
		"node f(a: i8^2) returns (s: i8) let s = a[0]; tel node g(a__0: i8) returns (a: i8^1; a__1: i8) let a__1 = a__0; a = [a__0]; tel":                    api.ErrTwice,
		"node f(a: i8^2) returns (s: i8) let s = a[0]; tel node g(a__0: i8) returns (a__1: i8) let a__1 = a__0; tel":                                         api.OK,
		"node a__0(a: i8^2) returns (a__2: i8) let a__2 = a[0]; tel node a__1(x: i8) returns (y: i8) let y = a__0([x, x]); tel":                              api.OK,
	} {
		p := parsed(t, text)
		q, e := arrays.Expand(p)
		if e != want || e != api.OK && len(q.Nodes) > 0 {
			t.Errorf("%s: error %d, %+v", text, e, q)
		}
		if e == api.OK {
			expanded(t, text, p)
		}
	}
}

// TestP702New: new locals have names that nobody has, wherever it stands.
func TestP702New(t *testing.T) {
	for text, want := range map[string]string{
		"(t__0: i8; t: i8^3) returns (y: i8) let y = t[0]; tel":                                                                                          "",
		"(t__1: i8) returns (y: i8) let y = total(rep(acc(t__1), 3)) + total(rep(acc(1i8), 3)); tel":                                                     "(t__1: i8) returns (y: i8) var t__0: i8; t__2: i8; let t__0 = acc(t__1); t__2 = acc(1i8); y = (total(t__0, t__0, t__0) + total(t__2, t__2, t__2)); tel",
		"(x: i8) returns (y, z: i8) let z = total(rep(acc(x), 3)); automaton state A var t: i8^2; do t = [x, 1i8]; y = total(rep(t[1] + x, 3)); end tel": "(x: i8) returns (y: i8; z: i8) var t__2: i8; let t__2 = acc(x); z = total(t__2, t__2, t__2); automaton state A var t__0: i8; t__1: i8; t__3: i8; do t__0 = x; t__1 = 1i8; t__3 = (t__1 + x); y = total(t__3, t__3, t__3); end tel",
	} {
		if want == "" {
			if _, e := arrays.Expand(parsed(t, helpers+"node f"+text)); e != api.ErrTwice {
				t.Errorf("%s: error %d", text, e)
			}
			continue
		}
		becomes(t, "node f"+text, "node f"+want)
	}
}
