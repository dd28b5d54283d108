package cause

import (
	"slices"
	"strings"
	"testing"

	"metronome/api"
	"metronome/clocks"
	"metronome/first"
	"metronome/gram"
	"metronome/names"
	"metronome/types"
)

// taken is the program of a text that the checks ahead of this one take.
func taken(t *testing.T, text string) api.Program {
	t.Helper()
	p, at, e := gram.Parse(text)
	if e != api.OK {
		t.Fatalf("%s: error %d at %d", text, e, at)
	}
	if at, e := checkedAhead(p); e != api.OK {
		t.Fatalf("%s: ahead: error %d at %d", text, e, at)
	}
	return p
}

func checkedAhead(p api.Program) (int, api.Errno) {
	for _, check := range []func(api.Program) (int, api.Errno){names.Check, types.Check, clocks.Check, first.Check} {
		if at, e := check(p); e != api.OK {
			return at, e
		}
	}
	return 0, api.OK
}

// marked is a text without its mark (an @), where that stood, and what must be wrong there; without one nothing is.
func marked(text string) (string, int, api.Errno) {
	at := strings.IndexByte(text, '@')
	if at < 0 {
		return text, 0, api.OK
	}
	return strings.Replace(text, "@", "", 1), at, api.ErrCycle
}

func holds(t *testing.T, text string) {
	t.Helper()
	text, at, want := marked(text)
	if got, e := Check(taken(t, text)); got != at || e != want {
		t.Errorf("%s: error %d at %d, not %d at %d", text, e, got, want, at)
	}
}

// hangs asks nodes of these heads with these bodies: a head has a mark where the variable is that must be told.
func hangs(t *testing.T, head string, bodies ...string) {
	t.Helper()
	for _, body := range bodies {
		holds(t, callable+"node f("+head+" let "+body+" tel")
	}
}

// Nodes that expressions may call.
const callable = `node neg(i: i8) returns (o: i8) let o = -i; tel
node add(i, j: i8) returns (o: i8) let o = i + j; tel
node late(i: i8) returns (o: i8) let o = 0i8 fby i; tel
node two(i: i8) returns (o, p: i8) let o = i; p = 0i8; tel
`

func TestP1001Examples(t *testing.T) {
	holds(t, "node f() returns (@x, y: i8) let x = y + 1i8; y = x; tel")
	holds(t, "node f() returns (x, y: i8) let x = 0i8 -> pre y; y = x; tel")
	holds(t, "")
	holds(t, "node count() returns (n: u8) let n = 0u8 fby (n + 1u8); tel node f(r: bool) returns (y: u8) let y = reset(count(), r); tel")
	holds(t, "node f() returns (y: i8) let automaton state A do y = 0i8 fby (y + 1i8); until y = 2i8 then B; state B do y = -1i8; until true continue A; end tel")
	holds(t, "node f(x: i8) returns (y: i8) let y = x; tel node g(x: i8) returns (y: i8) var fast: bool; z: i8 when fast; let fast = tick(2, 0); z = f(when(x, fast)); y = merge(fast, z, when(0i8 -> pre y, not fast)); tel")
}

// TestP1001Forms: of each form, what it reads; each kid by itself.
func TestP1001Forms(t *testing.T) {
	for _, e := range []string{
		"y", "-y", "y + x", "x + y", "if y = x then x else x", "if b then y else x", "if b then x else y", "y -> x", "x -> y", "y -> pre x", "y fby x", "cast(i8, y = x)",
		"neg(y)", "late(y)", "add(y, x)", "add(x, y)", "reset(neg(y), b)", "reset(neg(x), y = x)", "reset(late(x), y = x)", "[y, x][1]", "[x, y][0]", "rep(y, 2)[0]", "map(neg, [x, y])[0]", "map(add, xs, [x, y])[0]", "map(add, rep(y, 2), xs)[1]", "fold(add, y, xs)", "fold(add, x, [x, y])",
		"merge(b, when(y, b), 1i8)", "merge(b, 1i8, when(y, not b))", "neg(-(x + add(x, neg(y))))", "x -> (x -> y)", "0i8 -> pre x + y",
	} {
		hangs(t, "x: i8; xs: i8^2; b: bool) returns (z, @y: i8)", "z = y; y = "+e+";")
	}
	for _, e := range []string{
		"1i8", "x", "cast(i8, tick(2, 0))", "0i8 -> pre y", "0i8 fby y", "0i8 fby (x + y)", "0i8 -> pre (x + y)", "0i8 -> pre neg(y)", "0i8 -> neg(0i8 -> pre y)", "0i8 fby (0i8 fby y)", "x -> pre (x -> y)", "0i8 fby (y fby y)", "0i8 fby fold(add, y, [y, y])", "0i8 -> reset(neg(x -> pre y), b -> pre (y = x))", "0i8 -> (pre [y, y])[0]", "0i8 fby (y -> y)", "merge(b, 0i8 -> pre when(y, b), 0i8 fby when(y, not b))", "late(0i8 fby y)", "z0 fby y",
	} {
		hangs(t, "x, z0: i8; xs: i8^2; b: bool) returns (z, y: i8)", "z = y; y = "+e+";")
	}
}

// TestP1001Sampled: what EWhen and EMerge name is read, unless it is within what is put off.
func TestP1001Sampled(t *testing.T) {
	hangs(t, "x: i8; b: bool) returns (y: i8) var @c: bool; d: bool;", "y = x; d = c; c = merge(c, true, false);", "y = x; c = merge(d, true, false); d = merge(c, true, false);", "y = x; d = true; c = merge(d, when(c, d), true);", "y = x; d = true; c = merge(d, true, when(c, not d));")
	hangs(t, "x: i8; b: bool) returns (y: i8) var c: bool; d: bool;", "y = x; d = c; c = true fby merge(c, true, false);", "y = x; d = c; c = true -> pre merge(c, true, false);", "y = x; d = true; c = true fby merge(d, when(c, d), true);", "y = x; c = b; d = merge(c, true, false);")
	// a clock's variable that is named by EWhen alone
	hangs(t, "x: i8) returns (y: i8) var @c: bool; u: bool when d; d: bool;", "y = x; u = when(true, d); d = c; c = merge(d, when(true, d), false);")
	hangs(t, "x: i8) returns (y: i8) var @c: bool; d: bool;", "y = x; d = merge(c, when(true, c), false); c = d;", "y = x; d = c; c = neg(merge(d, when(1i8, d), 2i8)) = x;")
	hangs(t, "x: i8) returns (y: i8) var c: bool; d: bool;", "y = x; d = c; c = true -> pre (neg(merge(d, when(1i8, d), 2i8)) = x);")
}

// TestP1001Clocks: a variable hangs on those of its clock, on each of them. (What is told here hangs on them by nothing else.)
func TestP1001Clocks(t *testing.T) {
	hangs(t, "a: bool) returns (x: i8) var @z: i8 when c; c: bool;", "x = 1i8; z = 1i8; c = merge(c, z = 1i8, true);", "x = 1i8; z = 0i8 fby 1i8; c = a and merge(c, z = 1i8, true);", "x = 1i8; z = z + 1i8; c = a;")
	hangs(t, "a: bool) returns (x: i8) var @z: i8 when not c; c: bool;", "x = 1i8; z = 1i8; c = merge(c, true, z = 1i8);")
	hangs(t, "a: bool) returns (x: i8) var z: i8 when c; @c: bool;", "x = 1i8; z = 1i8; c = not c;", "x = merge(c, z, 1i8); z = 1i8; c = c;")
	hangs(t, "a: bool) returns (x: i8) var z: i8 when c; c: bool;", "x = merge(c, z, 2i8); z = 1i8; c = a;", "x = 1i8; z = 1i8; c = true fby merge(c, z = 1i8, true);", "x = 1i8; z = 0i8 fby z; c = a;")
	hangs(t, "a: bool) returns (@x: bool) var z: i8 when x;", "x = merge(x, z = 1i8, true); z = 1i8;")
	// by way of the clock's variable: z on c, c on d, d on z
	hangs(t, "a: bool) returns (x: i8) var @z: i8 when c; c, d: bool;", "x = 1i8; z = 1i8; c = d; d = merge(c, z = 1i8, true);")
	// of two edges the first, the second
	hangs(t, "a: bool) returns (y: bool) var @z: bool when d and e; d: bool; e: bool when d;", "y = a; e = true; z = true; d = merge(d, merge(e, z, true), true);")
	hangs(t, "a: bool) returns (y: bool) var @z: bool when a and e; e: bool when a;", "y = a; z = true; e = merge(e, z, true);")
	hangs(t, "a: bool) returns (y: bool) var z: bool when d and e; @d: bool; e: bool when d;", "y = a; e = true; z = true; d = merge(d, e, true);")
	hangs(t, "a: bool) returns (y: bool) var z: bool when a and not e; e: bool when a;", "y = merge(a, merge(e, true, z), true); z = true; e = true fby e;")
}

// TestP1001Ways: at once, by way of others, of other nodes; what leads to a ring or away from it is not in it.
func TestP1001Ways(t *testing.T) {
	hangs(t, "i: i8) returns (@x, y, z: i8)", "x = x; y = 1i8; z = 1i8;", "x = y; y = z; z = x;", "z = x; y = z; x = y;", "x = y; y = x; z = z;", "x = z; y = 1i8; z = x;", "x = x + y; y = y; z = x;", "x = y + z; y = i; z = i + x;")
	hangs(t, "i: i8) returns (x, @y, z: i8)", "x = y; y = z; z = y;", "x = y; y = y; z = 1i8;", "x = i; y = z + x; z = y + x;", "x = 0i8 fby x; y = y; z = z;", "x = z; y = z; z = y;")
	hangs(t, "i: i8) returns (x, y, @z: i8)", "x = y; y = z; z = z;", "x = i; y = x; z = z + y;")
	// between two rings, and ahead of both
	hangs(t, "i: i8) returns (x, y: i8) var l, @a, b, c, d: i8;", "x = y; y = l; l = a + c; a = b; b = a; c = d; d = c;", "x = i; y = b; b = c; c = b; l = a; a = a -> pre l + a; d = i;", "x = a; y = x; l = c; a = b; b = a + d; d = c; c = d;")
	hangs(t, "i: i8) returns (x, y: i8) var l, a, @b, c, d: i8;", "x = l; y = i; l = b; b = c; c = b + d; d = i; a = c;")
	hangs(t, "i: i8) returns (x, y: i8) var l, m: i8;", "x = l + m; y = x; l = i; m = l + i;", "m = i; l = m; y = l; x = y;", "x = 0i8 -> pre x + m; m = y; y = l; l = 0i8 fby x;")
	// what a node does inside is not looked at
	hangs(t, "i: i8) returns (@x, y: i8)", "x = late(y); y = late(x);", "x = late(x); y = i;")
}

// TestP1001Several: of an equation with several names each hangs on what it reads.
func TestP1001Several(t *testing.T) {
	hangs(t, "i: i8) returns (@x, y: i8)", "(x, y) = two(x);", "(y, x) = two(x);", "(x, y) = two(x + y);")
	hangs(t, "i: i8) returns (x, @y: i8)", "(x, y) = two(y);", "(y, x) = two(y);")
	hangs(t, "i: i8) returns (x, y: i8) var z: i8;", "(x, y) = two(z); z = i;", "(x, y) = two(0i8 fby x + y); z = x + y;")
	hangs(t, "i: i8) returns (x, y: i8) var @z: i8;", "(x, z) = two(i + z); y = x;", "x = z; (z, y) = two(z);")
	hangs(t, "i: i8) returns (@x, y: i8) var z: i8;", "(x, z) = two(y); y = x;")
	hangs(t, "i: i8) returns (x, @y: i8) var z: i8;", "(x, z) = two(y); y = z;")
}

// TestP1001Nodes: nodes in order; outputs ahead of locals, whatever the order of the equations is.
func TestP1001Nodes(t *testing.T) {
	const good = "node g(c: bool) returns (y: bool) let y = c -> pre y; tel "
	const bad = "node h(c: bool) returns (@y: bool) let y = not y; tel "
	plain := strings.Replace(strings.Replace(bad, "@", "", 1), "node h", "node i", 1)
	holds(t, good+bad)
	holds(t, bad+good)
	holds(t, bad+plain)
	holds(t, good+strings.Replace(good, "node g", "node j", 1)+bad+plain)
	holds(t, "node h(c: bool) returns (@y: bool) let y = not y; tel node k(c: bool) returns (y: bool) let y = h(c); tel")
	hangs(t, "i: i8) returns (z, @y: i8) var a, b: i8;", "a = b; b = a; y = y; z = i;", "z = a; a = b; b = a; y = a + y;")
	hangs(t, "i: i8) returns (z, y: i8) var @a, b: i8;", "b = b; a = a; z = i; y = a;", "b = a; a = b; y = b; z = y;")
	hangs(t, "i: i8) returns (z, y: i8) var a, @b: i8;", "b = b; a = b; z = i; y = a;")
	hangs(t, "i: i8) returns (z, @y: i8) var a, b: i8;", "z = a; a = b; b = y; y = a;")
}

// TestP1001Automata: what an automaton defines hangs on what all its states and its unless conditions read.
func TestP1001Automata(t *testing.T) {
	hangs(t, "a: bool) returns (@x, y: bool)",
		"automaton state A do x = y; y = a; state B do y = x; x = a; end", "automaton state A do x = x; y = a; end", "automaton state A do x = a; y = a; state B do x = x; y = y; end", "automaton state A do x = y; end automaton state B do y = x; end", "automaton state A do x = y; end y = x;",
		"automaton state A unless x then A; do x = a; y = a; end", "automaton state A do x = a; y = a; state B unless x then A; do x = a; y = a; end", "automaton state A unless a then A; unless not x continue A; do x = a; y = a; end", "automaton state A unless y then A; do x = a; end y = x;", "y = a; automaton state A unless merge(x, true, true) then A; do x = a; end", "automaton state A unless y then A; do x = a; end automaton state B unless x then B; do y = a; end",
	)
	hangs(t, "a: bool) returns (x, @y: bool)",
		"automaton state A do x = y; y = y; end", "automaton state A do x = y; y = a; state B do y = y; x = a; end", "automaton state A do x = a; end automaton state A unless y then A; do y = x; end", "automaton state A unless y then A; do x = a; y = a; end", "automaton state A unless y then A; do x = true fby x; end automaton state B unless y then B; do y = a; end",
	)
	hangs(t, "a: bool) returns (x, y: bool)",
		"automaton state A do x = a; y = x; until x then A; until y continue B; state B do x = a; y = a; until x and y then A; end", "automaton state A unless a then A; do x = y; y = a; state B unless a continue A; do y = a; x = y; end", "automaton state A unless y then A; do x = y; end y = a;", "automaton state A unless y then A; do x = y; until x then A; end automaton state B unless a then B; do y = true fby x; until x then B; end", "automaton state A do x = true fby y; y = true -> pre x; state B do x = y; y = a; end", "automaton state A do x = a; until y then A; end automaton state A do y = a; until x then A; end",
	)
}

// TestP1001Locals: the locals of states, each state's its own, behind all others, in the order in which they stand.
func TestP1001Locals(t *testing.T) {
	const head = "a: bool) returns (x, y: bool) var k: bool;"
	hangs(t, head,
		"y = a; k = a; automaton state A var @l, m: bool; do x = a; l = m; m = l; end", "y = a; k = a; automaton state A var l, @m: bool; do x = l; l = m; m = m; end", "y = a; k = a; automaton state A var l, m: bool; do x = l; l = m; m = a; end", "y = a; k = a; automaton state A var l: bool; do x = a; l = true fby l; end",
		"y = a; k = a; automaton state A do x = a; state B var @l: bool; do x = a; l = l; end", "y = a; k = a; automaton state A var @l: bool; do x = a; l = l; state B var l: bool; do x = a; l = l; end",
		// the same name in two states: two variables
		"y = a; k = a; automaton state A var l, m: bool; do x = a; l = m; m = a; state B var l, m: bool; do x = a; m = l; l = a; end", "y = a; k = a; automaton state A var l: bool; do x = l; l = a; state B var @l: bool; do x = a; l = not l; end", "k = a; automaton state A var l: bool; do x = l; l = a; y = a; state B var l: bool; do x = a; y = l; l = a; end",
		"y = a; k = a; automaton state A var @l: bool; do x = a; l = l; state B var m: bool; do x = a; m = m; end", "automaton state A var @l: bool; do x = a; l = l; end k = a; automaton state A var l: bool; do y = a; l = l; end",
		// what stands ahead is told behind the node's own, if these hang on themselves
		"automaton state A var @l: bool; do x = a; l = l; end y = k; k = a;",
	)
	hangs(t, "a: bool) returns (x: bool) var @k: bool;", "automaton state A var l: bool; do x = a; l = l; end k = k;", "automaton state A var l: bool; do x = l; l = k; k = l; end", "automaton state A var l: bool; do l = l; x = a; k = k; end")
	hangs(t, "a: bool) returns (@x: bool) var k: bool;", "automaton state A var l: bool; do x = l; l = x; end k = k;", "automaton state A var l: bool; do x = l; l = k; end k = x;", "automaton state A var l: bool; do x = l; l = a; state B var l: bool; do x = l; l = x; end k = a;")
	// a state's local hangs on x, but x not on it
	hangs(t, "a: bool) returns (x: bool) var k: bool;", "automaton state A var l: bool; do x = a; l = x; end k = x;", "automaton state A var l: bool; do x = l; l = a; state B var l: bool; do x = a; l = x; end k = x;")
	// by way of two states: in A x hangs on l, which hangs on y; in B y on m, which hangs on x
	hangs(t, "a: bool) returns (@x, y: bool)", "automaton state A var l: bool; do x = l; l = y; y = a; state B var m: bool; do y = m; m = x; x = a; end", "automaton state A var l: bool; do x = l; l = y; y = a; state B var l: bool; do y = l; l = x; x = a; end")
}

// TestP1001LocalsClocks: a state's local hangs on those of its clock, and on the unless conditions (what those read is told ahead of it).
func TestP1001LocalsClocks(t *testing.T) {
	hangs(t, "a: bool) returns (x: bool) var d: bool;",
		"d = a; automaton state A var @z: bool when c; c: bool; do x = a; z = true; c = merge(c, z, true); end", "d = a; automaton state A var @c: bool; z: bool when c; do x = a; z = true; c = merge(c, z, true); end",
		"d = a; automaton state A var z: bool when c; c: bool; do x = merge(c, z, true); z = true; c = a; end", "d = a; automaton state A var c: bool; z: bool when c; do x = a; z = true; c = true fby merge(c, z, true); end",
		"d = a; automaton state A var z: bool when d; do x = merge(d, z, true); z = true; end", "automaton state A var z: bool when d; do x = a; z = true; end d = x;", "d = a; automaton state A unless d then A; var l: bool; do x = l; l = a; end",
		// the clock's variable is of the state around, of this state, not of the state ahead
		"d = a; automaton state A var c: bool; do x = a; automaton state B var @z: bool when e; e: bool; do c = a; z = true; e = merge(e, z, true); end end", "d = a; automaton state A var @c: bool; do x = a; automaton state B var z: bool when c; do c = merge(c, z, true); z = true; end end", "d = a; automaton state A var c: bool; do x = a; c = true; state B var z: bool when c; c: bool; do z = true; c = a; x = merge(c, z, true); end",
	)
	hangs(t, "a: bool) returns (@x: bool) var d: bool;", "automaton state A var z: bool when d; do x = merge(d, z, true); z = true; end d = x;", "automaton state A var z: bool when x; l: bool; do x = l; l = merge(x, z, true); z = true; end d = a;", "automaton state A unless d then A; var l: bool; do x = l; l = a; end d = x;")
	hangs(t, "a: bool) returns (@x, y: bool)", "automaton state A unless y then A; var l: bool; do x = l; l = a; end automaton state B var l: bool; do y = l; l = x; end")
	hangs(t, "a: bool) returns (x, @y: bool)", "x = a; automaton state A var l: bool; do y = l; l = a; state B unless y then A; do y = a; end")
}

// TestP1001Nested: automata in states hang on their own conditions and those around.
func TestP1001Nested(t *testing.T) {
	hangs(t, "a: bool) returns (@x, y: bool)",
		"y = a; automaton state A unless x then A; do automaton state B do x = a; end end", "y = a; automaton state A do automaton state B unless x then B; do x = a; end end", "y = a; automaton state A do x = a; state B do automaton state C unless x then C; do x = a; end end", "y = a; automaton state A do automaton state B do x = a; end state C unless x then C; do x = a; end", "y = a; automaton state A do automaton state B do automaton state C do x = x; end end end", "y = a; automaton state A unless x then A; do automaton state B do automaton state C do x = a; end end end",
		"automaton state A unless y then A; do automaton state B do x = a; end end y = x;", "automaton state A do automaton state B unless y then B; do x = a; end y = x; end", "automaton state A do automaton state B unless y then B; do x = a; end automaton state C unless x then C; do y = a; end end", "automaton state A do automaton state B do x = a; state C unless y then C; do x = a; end y = x; end",
		"y = a; automaton state A var l: bool; do automaton state B do x = l; end l = x; end", "y = a; automaton state A var l: bool; do x = l; automaton state B do l = x; end end", "y = a; automaton state A var l: bool; do l = x; automaton state B unless l then B; do x = a; end end", "y = a; automaton state A do automaton state B var l: bool; do x = l; l = x; end end",
	)
	hangs(t, "a: bool) returns (x, @y: bool)", "automaton state A do x = a; automaton state B unless y then B; do y = a; end end", "automaton state A do automaton state B unless y then B; do x = a; end y = y; end", "automaton state A do x = y; automaton state B do y = y; end end")
	hangs(t, "a: bool) returns (x, y: bool)",
		// what an automaton's conditions read, only what is within it hangs on
		"automaton state A do automaton state B unless x then B; do y = a; end x = a; end", "automaton state A do x = a; automaton state B unless x then B; do y = x; end state C do automaton state D do x = a; end y = a; end", "automaton state A do automaton state B do x = a; until y then B; end y = x; end",
		"automaton state A do x = a; y = a; state B do automaton state C unless y then C; do x = a; end y = a; end", "y = a; automaton state A var l: bool; do l = a; automaton state B unless l then B; do x = l; end end", "y = a; automaton state A do automaton state B var l: bool; do x = l; l = a; state C var l: bool; do x = l; l = true fby x; end end",
		// the locals, those around first
		"y = a; automaton state A var @l: bool; do automaton state B var m: bool; do x = a; m = m; end l = l; end", "y = a; automaton state A var @l: bool; do automaton state B var m: bool; do x = a; l = m; m = l; end end", "y = a; automaton state A var l: bool; do automaton state B var @m: bool; do x = a; l = m; m = m; end end", "y = a; automaton state A do automaton state B var @m: bool; do x = a; m = m; end state C var l: bool; do l = l; x = a; end", "automaton state A do automaton state B var @m: bool; do x = a; m = m; end automaton state B var k: bool; do k = k; y = a; end end",
		"y = a; automaton state A var @l: bool; do x = a; automaton state B unless l then B; do l = a; end end", "y = a; automaton state A var @l: bool; do x = a; automaton state B do l = a; state C unless l then B; do l = a; end end",
		// a local of B hangs on B's condition, thus on l, and l on it
		"y = a; automaton state A var @l: bool; do automaton state B unless l then B; var m: bool; do x = a; m = a; l = m; end end",
	)
	// what is within hangs on the conditions of the automaton around it, which read k
	hangs(t, "a: bool) returns (x: bool) var k: bool;", "k = a; automaton state A unless k then A; do automaton state B var m: bool; do x = m; m = a; end end")
	hangs(t, "a: bool) returns (@x: bool) var k: bool;", "k = x; automaton state A unless k then A; do automaton state B var m: bool; do x = m; m = a; end end")
}

// TestP1001Places: the place is the variable's, not its equation's; also where it is 0.
func TestP1001Places(t *testing.T) {
	for _, at := range []int{0, 7, -3} {
		e := api.Exp{Form: api.EVar, Name: "x", At: 90}
		n := api.Node{Name: "f", Outs: []api.Var{{Name: "x", T: api.Type{Kind: api.I8}, At: at}}, Items: []api.Item{{Names: []string{"x"}, E: e, At: 91}}, At: 92}
		if got, what := Check(api.Program{Nodes: []api.Node{n}}); got != at || what != api.ErrCycle {
			t.Errorf("error %d at %d, not at %d", what, got, at)
		}
	}
}

func ordered(t *testing.T, want, text string) {
	t.Helper()
	p := taken(t, text)
	got, ok := Order(p, p.Nodes[len(p.Nodes)-1])
	if !ok || strings.Join(got, " ") != want {
		t.Errorf("%s: %q, %v; not %s", text, got, ok, want)
	}
}

func TestP1002Order(t *testing.T) {
	const head = callable + "node f(i: i8; b: bool) returns (x, y: i8) var z, w: i8; let "
	for body, want := range map[string]string{
		"x = i; y = i; z = i; w = i;": "x y z w", "w = i; z = i; y = i; x = i;": "x y z w", "x = y; y = z; z = w; w = i;": "w z y x", "x = w; y = i; z = y; w = z;": "y z w x",
		"x = y + z; y = 0i8 -> pre x; z = w + i; w = y;": "y w z x", "x = w; w = i; y = x; z = i;": "z w x y", "x = z; z = i; y = w; w = i;": "z x w y", "x = z; z = i; y = z; w = i;": "z x y w",
		"x = w; y = w; z = i; w = i;": "z w x y", "(x, y) = two(w); w = z; z = i;": "z w x y", "(y, x) = two(w); w = i; z = x + y;": "w x y z", "(z, x) = two(y); y = w; w = i;": "w y x z", "x = y + y + y; y = z - z; z = w; w = i;": "w z y x",
		"x = 0i8 fby w; y = 0i8 fby x; z = 0i8 -> pre w; w = x fby y;": "x y z w", "x = w -> pre y; y = x; z = y; w = 0i8;": "w x y z", "x = merge(b, when(z, b), when(w, not b)); y = i; z = i; w = i;": "y z w x",
		"x = late(late(w)); y = reset(neg(x), z = w); z = fold(add, i, [i, w]); w = 0i8;": "w x z y",
	} {
		ordered(t, want, head+body+" tel")
	}
	ordered(t, "x y", "node f() returns (x, y: i8) let x = 0i8 -> pre y; y = x; tel")
	ordered(t, "y", "node f() returns (y: i8) let y = 0i8; tel")
	// clocks: each edge
	ordered(t, "y c z", "node f(a: bool) returns (y: bool) var z: i8 when c; c: bool; let y = a; c = a; z = 1i8; tel")
	ordered(t, "c z y", "node f(a: bool) returns (y: bool) var z: bool when c; c: bool; let y = merge(c, z, true); c = a; z = true; tel")
	ordered(t, "y c d z", "node f(a: bool) returns (y: bool) var z: i8 when c and d; c: bool; d: bool when c; let y = a; c = a; z = 1i8; d = true; tel")
	ordered(t, "y d z c", "node f(a: bool) returns (y: bool) var z: i8 when a and d; c: bool; d: bool when a; let y = a; c = merge(a, merge(d, z = z, true), true); z = 1i8; d = true; tel")
	ordered(t, "y z c", "node f(a: bool) returns (y: bool) var z: i8 when a; c: bool; let y = a; z = 1i8; c = true fby merge(c, true, false); tel")
}

func TestP1002None(t *testing.T) {
	p := taken(t, callable+`node a(a: bool) returns (x: bool) let automaton state A do x = a; end tel
node b(a: bool) returns (x, y: bool) let y = a; automaton state A do x = a; end tel
node c(a: bool) returns (x, y: bool) let automaton state A do x = a; end y = a; tel
node d() returns (x: bool) let x = not x; tel
node e(i: i8) returns (x, y, z: i8) let x = i; y = z; z = y; tel
node g(i: i8) returns (x, y, z: i8) let x = y; y = i; z = z; tel
node h(i: i8) returns (x, y: i8) let (x, y) = two(y); tel
node i(a: bool) returns (x: bool) var z: bool when x; let x = merge(x, z, true); z = true; tel`)
	for _, n := range p.Nodes[4:] {
		if got, ok := Order(p, n); ok || got != nil {
			t.Errorf("%s: %q, %v", n.Name, got, ok)
		}
	}
	if len(p.Nodes) != 12 {
		t.Error(len(p.Nodes))
	}
}

// TestP1002Alone: the order hangs on the node, whatever program is beside it; names that stand for nothing need no place.
func TestP1002Alone(t *testing.T) {
	p := taken(t, callable+"node f(i: i8) returns (x, y: i8) var z: i8; let x = y; y = neg(z); z = i; tel")
	for _, q := range []api.Program{p, {}, {Nodes: p.Nodes[:1]}} {
		if got, ok := Order(q, p.Nodes[len(p.Nodes)-1]); !ok || !slices.Equal(got, []string{"z", "y", "x"}) {
			t.Errorf("%q, %v", got, ok)
		}
	}
	q, _, _ := gram.Parse("node f(i: i8) returns (x, y: i8) let x = y + nowhere; y = nothing(i); tel")
	if got, ok := Order(q, q.Nodes[0]); !ok || !slices.Equal(got, []string{"y", "x"}) {
		t.Errorf("%q, %v", got, ok)
	}
}
