package stream_test

import (
	"math"
	"slices"
	"strconv"
	"strings"
	"testing"

	"metronome/api"
	"metronome/bv"
	"metronome/stream"
)

// ticks reads a list of ticks: they are parted by blanks, the values of one by commas; a - alone is a tick without values.
func ticks(t *testing.T, text string) (all [][]int) {
	t.Helper()
	for _, one := range strings.Fields(text) {
		values := []int{}
		for _, digits := range strings.Split(one, ",") {
			if one == "-" {
				break
			}
			n, err := strconv.Atoi(digits)
			if err != nil {
				t.Fatal(err)
			}
			values = append(values, n)
		}
		all = append(all, values)
	}
	return all
}

// tells asks the last node of a program: an arrow stands between the inputs and what must be told.
func tells(t *testing.T, text, what string) {
	t.Helper()
	in, out, _ := strings.Cut(what, ">")
	p := taken(t, text)
	ins, want := ticks(t, in), ticks(t, out)
	text = text[strings.LastIndex(text, "node "):]
	if got := run(t, p, p.Nodes[len(p.Nodes)-1].Name, ins); !same(got, want) {
		t.Errorf("%s\nof %v: %v, not %v", text, ins, got, want)
	}
	if got := meaning(p, p.Nodes[len(p.Nodes)-1].Name, ins, ""); !same(got, want) {
		t.Errorf("%s\nof %v: the oracle tells %v, not %v", text, ins, got, want)
	}
}

// row is what stands in brackets behind node f, and what it must tell.
type row struct{ head, body, what string }

func all(t *testing.T, helpers string, rows ...row) {
	t.Helper()
	for _, r := range rows {
		tells(t, helpers+"node f("+r.head+" let "+r.body+" tel", r.what)
	}
}

func TestP1101Examples(t *testing.T) {
	all(t, "",
		row{"x: i8) returns (y: i8)", "y = 0i8 -> pre y + x;", "1 2 3 > 0 2 5"},
		row{") returns (y: bool)", "y = tick(3, 1);", "- - - - - > 0 1 0 0 1"},
		row{"c: bool) returns (y: i8) var z: i8 when c;", "z = 1i8 fby (z + 1i8); y = merge(c, z, when(0i8, not c));", "1 0 1 > 1 0 2"},
		row{") returns (y: i8)", "automaton state A do y = 0i8 fby (y + 1i8); until y = 2i8 then B; state B do y = -1i8; until true continue A; end", "- - - - - - - - > 0 1 2 -1 3 4 5 6"},
	)
	tells(t, "node count() returns (n: u8) let n = 0u8 fby (n + 1u8); tel node f(r: bool) returns (y: u8) let y = reset(count(), r); tel", "0 0 0 1 0 1 1 0 > 0 1 2 0 1 0 0 1")
	tells(t, "node g(a: i8) returns (b: i8) let b = a + (0i8 -> pre b); tel node f(x: i8) returns (y: i8) var fast: bool; z: i8 when fast; let fast = tick(2, 0); z = g(when(x, fast)); y = merge(fast, z, when(0i8 -> pre y, not fast)); tel", "1 2 3 4 5 6 > 1 1 4 4 9 9")
	tells(t, "node f(x: i8) returns (y: i8) let y = x; tel", "")
}

// TestP1101Values: the forms without memory.
func TestP1101Values(t *testing.T) {
	all(t, "",
		row{"x: i8) returns (y: i8)", "y = -5i8;", "1 2 > -5 -5"},
		row{") returns (y: u64)", "y = 18446744073709551615u64;", "- > -1"},
		row{"x, z: i8) returns (y: i8)", "y = z;", "1,2 3,4 > 2 4"},
		row{"x: i8) returns (y: i8)", "y = -x;", "1 -128 0 > -1 -128 0"},
		row{"x: u8) returns (y: u8)", "y = not x;", "1 255 > 254 0"},
		row{"x: bool) returns (y: bool)", "y = not x;", "1 0 > 0 1"},
		row{"a, b: i8) returns (s, d, p, q, r: i8)", "s = a + b; d = a - b; p = a * b; q = a / b; r = a mod b;", "127,1 -128,-1 7,0 -7,2 > -128,126,127,127,0 127,-127,-128,-128,0 7,7,0,0,0 -5,-9,-14,-3,-1"},
		row{"a, b: u64) returns (l, g: bool; q: u64)", "l = a < b; g = a >= b; q = a / b;", "-1,0 1,-1 -1,-1 > 0,1,0 1,0,0 0,1,1"},
		row{"a, b: i8) returns (y, z: i8)", "y = a << b; z = a >> b;", "-8,1 1,7 -1,-1 5,9 > -16,-4 -128,0 0,-1 0,0"},
		row{"a, b: bool) returns (y: bool)", "y = a => b;", "0,0 0,1 1,0 1,1 > 1 1 0 1"},
		row{"a: i8) returns (y: u16; z: bool; w: i64)", "y = cast(u16, a); z = cast(bool, a); w = cast(i64, cast(u8, a));", "-1 0 > 65535,1,255 0,0,0"},
		row{"c: bool; a, b: i8) returns (y: i8)", "y = if c then a else b;", "1,2,3 0,2,3 > 2 3"},
		row{"c: bool; a, b: i8^2) returns (y: i8^2)", "y = if c then a else b;", "1,2,3,4,5 0,2,3,4,5 > 2,3 4,5"},
		row{"a, b: i8) returns (y: i8^3; z: i8)", "y = [a, b, a + b]; z = y[2];", "1,2 > 1,2,3,3"},
		row{"a: i8) returns (y: i8^3; z: i8)", "y = rep(a, 3); z = [a, -a][1];", "1 > 1,1,1,-1"},
		row{"a: i8; b: bool^2; c: u8^0) returns (y: bool; z: bool^2; w: u8; v: bool^1)", "y = b[1]; z = [b[1], b[0]]; w = c; v = [b[0]];", "1,0,1,9 > 1,1,0,9,0"},
		row{"x: i8) returns (y, z: i8) var a, b: i8;", "y = a + b; a = b + z; b = z; z = x + 1i8;", "1 2 > 6,2 9,3"},
	)
}

// TestP1101Memory: what remembers, by itself and within one another.
func TestP1101Memory(t *testing.T) {
	all(t, "",
		row{"x: i8) returns (y: i8)", "y = 9i8 -> pre x;", "1 2 3 > 9 1 2"},
		row{"x: i8) returns (y: i8)", "y = 9i8 fby x;", "1 2 3 > 9 1 2"},
		row{"x: i8) returns (y: i8)", "y = x fby (x + 10i8);", "1 2 3 > 1 11 12"},
		row{"x: i8) returns (y: i8)", "y = x -> -x;", "1 2 3 > 1 -2 -3"},
		row{"x: i8) returns (y: i8)", "y = 8i8 -> 9i8 -> pre x;", "1 2 3 > 8 1 2"},
		row{"x: i8) returns (y: i8)", "y = 8i8 fby 9i8 fby x;", "1 2 3 4 > 8 9 1 2"},
		row{"x: i8) returns (y: i8)", "y = 8i8 -> pre (9i8 -> pre x);", "1 2 3 4 > 8 9 1 2"},
		row{"x: i8) returns (y: i8)", "y = 0i8 -> pre (0i8 -> pre (0i8 -> pre (x + y)));", "1 2 3 4 5 > 0 0 0 1 2"},
		row{"x: i8) returns (y: i8)", "y = 0i8 -> (pre x) + (pre (x * 2i8)) * pre x;", "1 2 3 > 0 3 10"},
		row{"x: i8) returns (y: i8)", "y = (1i8 fby x) fby (x fby (x * 10i8));", "1 2 3 4 > 1 1 10 20"},
		row{"x: i8^2) returns (y: i8^2)", "y = [8i8, 9i8] -> pre x;", "1,2 3,4 5,6 > 8,9 1,2 3,4"},
		row{"x: i8^2) returns (y: i8)", "y = 7i8 -> (pre x)[1] + (rep(5i8, 2) fby x)[0];", "1,2 3,4 5,6 > 7 3 7"},
		row{"x: i8) returns (y, z: i8)", "y = 1i8 fby z; z = y + (0i8 fby y);", "0 0 0 0 > 1,1 1,2 2,3 3,5"},
		// both are evaluated, whichever is told
		row{"c: bool) returns (y: i8)", "y = if c then cast(i8, tick(2, 0)) else -cast(i8, tick(2, 0));", "1 1 0 0 1 > 1 0 -1 0 1"},
		row{"c: bool) returns (y: i8)", "y = 5i8 -> cast(i8, tick(3, 0));", "0 0 0 0 > 5 0 0 1"},
		row{"c: bool; x: i8) returns (y: i8)", "y = if c then 0i8 -> pre x else x;", "0,1 0,2 1,3 1,4 > 1 2 2 3"},
		row{"x: i8) returns (y: bool)", "y = false -> (if pre (x = 1i8) then true else false);", "1 2 1 > 0 1 0"},
		row{"c: bool) returns (y: bool)", "y = tick(1, 0);", "0 0 > 1 1"},
		row{"c: bool) returns (y: bool)", "y = tick(2, 1) and c or tick(3, 2);", "1 1 1 1 0 0 1 > 0 1 1 1 0 1 0"},
	)
	var in, out strings.Builder
	for i := range 200 {
		in.WriteString(" -")
		out.WriteString(" " + strconv.Itoa(map[bool]int{true: 1}[i%64 == 63]))
	}
	all(t, "", row{") returns (y: bool)", "y = tick(64, 63);", in.String() + ">" + out.String()})
}

// TestP1101Clocks: what is there when, and what moves when.
func TestP1101Clocks(t *testing.T) {
	all(t, "",
		// a memory moves where its clock holds
		row{"c: bool; x: i8) returns (y: i8) var z: i8 when c;", "z = 0i8 -> pre when(x, c); y = merge(c, z, -1i8);", "1,1 0,2 1,3 1,4 > 0 -1 1 3"},
		row{"c: bool; x: i8) returns (y: i8) var z: i8 when not c;", "z = 0i8 fby when(x, not c); y = merge(c, -1i8, z);", "0,1 1,2 0,3 0,4 > 0 -1 1 3"},
		row{"c: bool) returns (y: bool)", "y = merge(c, tick(2, 0), false);", "1 0 1 0 1 > 1 0 0 0 1"},
		row{"c: bool) returns (y: bool)", "y = merge(c, false, tick(2, 1));", "1 0 1 0 1 0 > 0 0 0 1 0 0"},
		row{"c: bool) returns (y: i8)", "y = merge(c, 1i8 -> 2i8, 3i8 -> 4i8);", "1 1 0 0 1 > 1 2 3 4 2"},
		// the kid of a when moves with its variable
		row{"c: bool; x: i8) returns (y: i8) var z: i8 when c;", "z = when(0i8 -> pre x, c); y = merge(c, z, -1i8);", "1,1 0,2 1,3 1,4 > 0 -1 2 3"},
		row{"c: bool) returns (y: i8) var z: bool when c;", "z = when(tick(3, 2), c); y = merge(c, cast(i8, z), 7i8);", "1 0 1 0 0 1 > 0 7 1 7 7 1"},
		row{"c: bool) returns (y: bool)", "y = merge(c, when(tick(2, 0), c), when(tick(2, 0), not c));", "1 0 0 1 1 > 1 0 1 0 1"},
		row{"c, d: bool) returns (y: i8) var e: bool when c; z: i8 when c and e;", "e = when(d, c); z = when(when(0i8 fby 1i8, c), e) + when(1i8 -> 2i8, e); y = merge(c, merge(e, z, -1i8), -2i8);", "0,0 1,0 1,1 1,1 > -2 -1 3 3"},
		row{"c: bool) returns (y: i8) var z: i8 when c;", "z = 0i8 -> pre when(1i8 fby 2i8, c); y = merge(c, z, 9i8);", "1 1 0 1 1 > 0 1 9 2 2"},
		// a kid that samples while all around it is not there
		row{"c, d: bool; x: i8) returns (y: i8) var e: bool when d; z: i8 when d and e;", "e = when(c, d); z = when(when(0i8 -> pre (0i8 -> pre x), d), e); y = merge(d, merge(e, z, -1i8), -2i8);", "1,0,1 0,1,2 1,0,3 1,1,4 > -2 -1 -2 2"},
		row{"c, d: bool) returns (y: i8) var e: bool when c; g: bool when c and e; z: i8 when c and e and g;", "e = when(d, c); g = tick(2, 1); z = when(cast(i8, tick(3, 1)), g); y = merge(c, merge(e, merge(g, z, -1i8), -2i8), -3i8);", "1,1 1,1 1,0 1,1 0,1 1,1 1,1 1,1 > -1 1 -2 -1 -3 0 -1 0"},
		// clocks of clocks, of their opposites
		row{"c: bool) returns (y: i8) var d: bool when c; z: i8 when c and not d; w: i8 when c and d;", "d = tick(2, 0); z = 10i8 -> pre z + 1i8; w = 20i8 fby (w + 1i8); y = merge(c, merge(d, w, z), 0i8);", "1 1 0 1 1 0 1 > 20 10 0 21 11 0 22"},
		row{"c: bool) returns (y: i8) var z: i8 when not c and not d; d: bool when not c;", "z = 0i8 fby (z + 1i8); d = tick(2, 1); y = merge(c, 9i8, merge(d, 8i8, z));", "0 0 1 0 0 > 0 8 9 1 8"},
		// nothing happens of what is not there: no other one needs it
		row{"c: bool; x: i8) returns (y: i8) var a, b: i8 when c;", "a = 1i8 fby (a * 2i8); b = 0i8 -> pre a; y = merge(c, b, when(x, not c));", "1,5 0,6 1,7 0,8 1,9 > 0 6 1 8 2"},
		// literals and ticks on any clock
		row{"c: bool) returns (y: bool) var z: bool when c; n: i8 when c;", "z = tick(2, 1); n = 1i8; y = merge(c, z and n = 1i8, true);", "1 0 1 0 1 1 > 0 1 1 1 0 1"},
		row{"c: bool; x: i8^2) returns (y: i8^2) var z: i8^2 when c;", "z = rep(0i8, 2) fby when(x, c); y = merge(c, z, when(x, not c));", "1,1,2 0,3,4 1,5,6 > 0,0 3,4 1,2"},
	)
	all(t, "node acc(x: i8) returns (y: i8) let y = x + (0i8 -> pre y); tel node two() returns (a: i8; b: i8^2) let a = 0i8 fby (a + 1i8); b = [a, -a]; tel ",
		// an instance is activated where its call is active
		row{"c: bool; x: i8) returns (y: i8) var z: i8 when c;", "z = acc(when(x, c)); y = merge(c, z, 0i8);", "1,1 0,2 1,3 > 1 0 4"},
		row{"c: bool; x: i8) returns (y: i8) var z: i8 when c;", "z = when(acc(x), c); y = merge(c, z, 0i8);", "1,1 0,2 1,3 > 1 0 6"},
		row{"c: bool) returns (y: i8)", "y = merge(c, acc(1i8), acc(10i8));", "1 1 0 0 1 > 1 2 10 20 3"},
		row{"c: bool) returns (y: i8) var a: i8 when c; b: i8^2 when c;", "(a, b) = two(); y = merge(c, a * 10i8 - b[1], -1i8);", "1 0 1 1 > 0 -1 11 22"},
		row{"c: bool) returns (y: i8) var z: i8 when c;", "z = acc(1i8); y = 0i8;", "1 0 > 0 0"},
	)
}

const callable = `node acc(x: i8) returns (y: i8) let y = x + (0i8 -> pre y); tel
node count() returns (n: u8) let n = 0u8 fby (n + 1u8); tel
node add(a, b: i8) returns (c: i8) let c = a + b + (0i8 -> pre c); tel
node both(a: i8^2; b: bool) returns (s: i8; r: i8^2; n: bool) let s = a[0] - a[1]; r = [a[1], 0i8 -> pre a[0]]; n = not b; tel
node twice(x: i8) returns (y: i8) let y = acc(acc(x)); tel
node sub(r: bool) returns (y: u8; z: i8) let y = reset(count(), r) + count(); z = 0i8 -> pre z + 1i8; tel
node flip() returns (y: i8) let automaton state A do y = 0i8 fby (y + 1i8); until y = 1i8 continue B; state B do y = -1i8; until true continue A; end tel
node kept(c: bool) returns (y: i8) var z: i8 when c; let z = 1i8 fby (z + 1i8); y = merge(c, z, when(0i8 -> pre y, not c)); tel
node none() returns (y: i8) let y = 5i8; tel
`

// TestP1101Calls: instances of their own, new ones, one for each element.
func TestP1101Calls(t *testing.T) {
	all(t, callable,
		row{"x: i8) returns (y, z: i8)", "y = acc(x); z = acc(x * 2i8);", "1 2 3 > 1,2 3,6 6,12"},
		row{"x: i8) returns (y: i8)", "y = acc(x) * 10i8 + acc(acc(x));", "1 2 3 > 11 34 70"},
		row{"x: i8) returns (y: i8)", "y = twice(x);", "1 0 0 > 1 2 3"},
		row{"x: i8) returns (y: i8)", "y = none();", "1 > 5"},
		row{"a, b: i8; c: bool) returns (x: i8; y: i8^2; z: bool)", "(x, y, z) = both([a, b], c);", "1,2,0 3,4,1 > -1,2,0,1 -1,4,1,0"},
		row{"a: i8^2) returns (z: bool; x: i8; y: i8^2)", "(x, y, z) = both(a, true);", "1,2 3,4 > 0,-1,2,0 0,-1,4,1"},
		row{"x: i8) returns (y: i8)", "y = if x = 0i8 then acc(1i8) else acc(10i8);", "0 1 0 1 > 1 20 3 40"},
		row{"x: i8) returns (y: i8)", "y = 0i8 -> pre acc(x);", "1 2 3 > 0 1 3"},
		row{"x: i8) returns (y: i8)", "y = acc(x) fby acc(x * 10i8);", "1 2 3 > 1 10 30"},
		// resets: the instance and all within it, from that activation on
		row{"r: bool) returns (y: u8)", "y = reset(count(), r);", "1 0 0 1 0 > 0 1 2 0 1"},
		row{"x: i8; r: bool) returns (y: i8)", "y = reset(acc(x), r);", "1,0 2,0 4,1 5,0 > 1 3 4 9"},
		row{"x: i8; r: bool) returns (y: i8)", "y = reset(twice(x), r);", "1,0 1,0 1,1 1,0 > 1 3 1 3"},
		row{"r, s: bool) returns (y: u8; z: i8)", "(y, z) = reset(sub(r), s);", "0,0 0,0 1,0 0,0 0,1 0,0 1,1 > 0,0 2,1 2,2 4,3 0,0 2,1 0,0"},
		row{"r: bool) returns (y: i8)", "y = reset(flip(), r);", "0 0 0 0 1 0 0 1 0 > 0 1 -1 2 0 1 -1 0 1"},
		row{"r: bool) returns (y: i8)", "y = reset(flip(), r);", "0 0 1 1 0 0 > 0 1 0 0 1 -1"},
		row{"c, r: bool) returns (y: i8)", "y = reset(kept(c), r);", "0,0 1,0 1,0 1,1 0,0 1,0 0,1 1,0 > 0 1 2 1 1 2 0 1"},
		row{"r: bool) returns (y: u8)", "y = reset(count(), r) + reset(count(), not r);", "0 0 1 0 1 1 > 0 1 1 1 1 2"},
		row{"r: bool) returns (y: u8)", "y = reset(count(), false -> pre r);", "1 0 0 1 0 > 0 0 1 2 0"},
		row{"c, r: bool) returns (y: u8) var z: u8 when c;", "z = reset(count(), when(r, c)); y = merge(c, z, 99u8);", "1,0 1,0 0,1 1,0 1,1 1,0 > 0 1 99 2 0 1"},
		row{"c, r: bool) returns (y: u8)", "y = if c then reset(count(), r) else 99u8;", "1,0 0,0 1,0 0,1 1,0 > 0 99 2 99 1"},
		// an array's elements
		row{"x: i8^3) returns (y: i8^3)", "y = map(acc, x);", "1,2,3 1,2,3 0,0,1 > 1,2,3 2,4,6 2,4,7"},
		row{"x: i8^2; z: i8) returns (y: i8^2)", "y = map(add, x, [z, -z]);", "1,2,3 1,2,3 > 4,-1 8,-2"},
		row{"x: i8^1) returns (y: i8^1)", "y = map(twice, x);", "1 1 1 > 1 3 6"},
		row{"x: i8; a: i8^3) returns (y: i8)", "y = fold(add, x, a);", "1,2,3,4 0,0,0,0 > 10 19"},
		row{"x: i8; a: i8^2) returns (y: i8)", "y = fold(add, x, map(acc, a)) + fold(add, x, a);", "1,1,1 0,0,1 > 6 14"},
		row{"x: i8) returns (y: i8)", "y = fold(add, x, [7i8]);", "1 1 > 8 16"},
	)
}

func TestP1101FoldOrder(t *testing.T) {
	all(t, "node sub(a, b: i8) returns (c: i8) let c = a * 2i8 - b; tel ",
		row{"x: i8) returns (y: i8)", "y = fold(sub, x, [1i8, 2i8, 3i8]);", "1 2 > -3 5"},
		row{"a: i8^3; b: i8^3) returns (y: i8^3)", "y = map(sub, a, b);", "1,2,3,4,5,6 > -2,-1,0"},
	)
	all(t, "node late(a: bool; b: i8) returns (c: bool) let c = a and b > 0i8 or (false -> pre (b > 0i8)); tel ",
		row{"a: i8^2) returns (y: bool)", "y = fold(late, true, a);", "1,1 0,1 1,0 0,0 > 1 1 1 0"},
	)
}

// TestP1101Automata: which state is active, and what is new in it.
func TestP1101Automata(t *testing.T) {
	all(t, callable,
		// the first state, without a mark; the state stays
		row{") returns (y: i8)", "automaton state B do y = 1i8 fby (y + 1i8); state A do y = 9i8; end", "- - - > 1 2 3"},
		// until: from the next activation on
		row{"c: bool) returns (y: i8)", "automaton state A do y = 1i8; until c then B; state B do y = 2i8; until c then A; end", "0 1 0 1 1 1 > 1 1 2 2 1 2"},
		// unless: from this one on; those of the new state are not asked
		row{"c: bool) returns (y: i8)", "automaton state A unless c then B; do y = 1i8; state B unless c then A; do y = 2i8; end", "0 1 0 1 1 1 > 1 2 2 1 2 1"},
		row{"c: bool) returns (y: i8)", "automaton state A unless c then B; do y = 1i8; state B unless true then C; do y = 2i8; state C unless true then A; do y = 3i8; end", "0 1 0 0 1 > 1 2 3 1 2"},
		// until conditions are those of the state that unless says
		row{"c: bool) returns (y: i8)", "automaton state A unless c then B; do y = 1i8; until true then A; state B do y = 2i8; until true then C; state C do y = 3i8; until not c then A; end", "0 1 1 0 0 > 1 2 3 3 1"},
		// the first condition that is true
		row{"c, d: bool) returns (y: i8)", "automaton state A unless c then B; unless d then C; do y = 1i8; state B do y = 2i8; until c then A; until d then C; state C do y = 3i8; until true then A; end", "0,0 1,1 0,1 0,0 0,1 1,0 > 1 2 3 1 3 2"},
		row{"c, d: bool) returns (y: i8)", "automaton state A unless d then C; unless c then B; do y = 1i8; state B do y = 2i8; until true then A; state C do y = 3i8; until true then A; end", "0,0 1,0 1,1 0,0 1,1 > 1 2 3 1 3"},
		row{"c, d: bool) returns (y: i8)", "automaton state A do y = 1i8; until c then B; until d then C; state B do y = 2i8; until true then A; state C do y = 3i8; until true then A; end", "1,1 0,0 0,1 0,0 1,0 0,0 > 1 2 1 3 1 2"},
		row{"c, d: bool) returns (y: i8)", "automaton state A do y = 1i8; until d then C; until c then B; state B do y = 2i8; until true then A; state C do y = 3i8; until true then A; end", "1,1 0,0 0,1 0,0 1,0 0,0 > 1 3 1 3 1 2"},
		// then: new memories; continue: those that were
		row{"c: bool) returns (y: i8)", "automaton state A do y = 0i8 fby (y + 1i8); until c then A; end", "0 0 1 0 0 1 0 > 0 1 2 0 1 2 0"},
		row{"c: bool) returns (y: i8)", "automaton state A do y = 0i8 fby (y + 1i8); until c continue A; end", "0 0 1 0 0 1 0 > 0 1 2 3 4 5 6"},
		row{"c: bool) returns (y: i8)", "automaton state A unless c then A; do y = 0i8 fby (y + 1i8); end", "0 0 1 0 0 1 0 > 0 1 0 1 2 0 1"},
		row{"c: bool) returns (y: i8)", "automaton state A unless c continue A; do y = 0i8 fby (y + 1i8); end", "1 0 1 > 0 1 2"},
		row{"c: bool) returns (y: i8)", "automaton state A do y = 0i8 fby (y + 1i8); until c continue B; state B do y = 10i8 -> pre y + 1i8; until c then A; end", "0 1 0 1 0 1 0 1 0 > 0 1 10 11 0 1 12 13 0"},
		// a mark of until that unless takes away, or sets
		row{"c: bool) returns (y: i8)", "automaton state A unless c continue A; do y = 0i8 fby (y + 1i8); until true then A; end", "0 0 1 1 0 > 0 0 1 2 0"},
		row{"c, d: bool) returns (y: i8)", "automaton state A do y = 0i8 fby (y + 1i8); until c then B; state B unless d continue C; do y = 10i8 fby (y + 1i8); until c continue A; state C do y = 20i8 fby (y + 1i8); until c then A; until true continue B; end", "1,0 0,0 1,0 1,0 0,1 0,0 1,0 > 0 10 11 1 20 12 13"},
		row{"c: bool) returns (y: i8)", "automaton state A unless c then A; do y = 0i8 fby (y + 1i8); until true continue A; end", "0 0 1 0 > 0 1 0 1"},
		// a mark is for the state that is entered alone
		row{"c: bool) returns (y: i8)", "automaton state A unless c then B; do y = 0i8 fby (y + 1i8); state B do y = 10i8 fby (y + 1i8); until c continue A; end", "0 0 1 0 1 0 0 > 0 1 10 2 10 3 4"},
	)
	all(t, callable,
		// what is in a state: calls, ticks, arrows, slower clocks
		row{"c: bool) returns (y: u8)", "automaton state A do y = count(); until c then B; state B do y = 100u8 + count(); until c continue A; end", "0 1 0 1 0 1 0 > 0 1 100 101 2 3 100"},
		row{"c: bool) returns (y: bool)", "automaton state A do y = tick(2, 1); until c then A; end", "0 0 1 0 0 > 0 1 0 0 1"},
		row{"c: bool) returns (y: i8)", "automaton state A var l: bool; n: i8 when l; do l = c; n = 5i8 fby (n + 1i8); y = merge(l, n, 0i8); until not l then A; end", "1 1 0 0 1 1 0 1 > 5 6 0 0 5 6 0 5"},
		row{"c: bool) returns (y: i8)", "automaton state A var n: i8 when c; do n = when(0i8 -> pre (y + 1i8), c); y = merge(c, n, 7i8); until y = 8i8 then B; state B do y = 50i8; until true continue A; end", "0 1 0 0 1 > 7 8 50 7 8"},
		row{"c: bool) returns (y: u8)", "automaton state A do y = reset(count(), c); until y = 2u8 then B; state B do y = 50u8; until true continue A; end", "0 0 0 0 0 1 0 > 0 1 2 50 3 0 1"},
		row{"c: bool) returns (x: i8; y: i8^2; z: bool)", "automaton state A do x = 1i8; y = [x, x + 1i8]; z = c; until c then B; state B do (x, y, z) = both(rep(5i8, 2), c); until c then A; end", "0 1 0 1 0 > 1,1,2,0 1,1,2,1 0,5,0,1 0,5,5,0 1,1,2,0"},
	)
	all(t, callable,
		// within one another
		row{"c: bool) returns (y: i8)", "automaton state A do automaton state P do y = 1i8; until true then Q; state Q do y = 2i8; end until c then B; state B do y = 3i8; until true then A; end", "0 0 1 0 0 1 0 0 > 1 2 2 3 1 2 3 1"},
		row{"c: bool) returns (y: i8)", "automaton state A do automaton state P do y = 1i8; until true then Q; state Q do y = 2i8; end until c then B; state B do y = 3i8; until true continue A; end", "0 0 1 0 0 1 0 0 > 1 2 2 3 2 2 3 2"},
		row{"c, d: bool) returns (y: i8)", "automaton state A unless c then A; do automaton state P do y = 0i8 fby (y + 1i8); until d continue Q; state Q do y = 10i8 fby (y + 1i8); until d continue P; end end", "0,0 0,1 0,0 0,1 0,0 1,0 0,1 0,0 > 0 1 10 11 2 0 1 10"},
		row{"c, d: bool) returns (y: i8)", "automaton state A do automaton state P unless d then P; do y = 0i8 fby (y + 1i8); end until c then B; state B do y = -1i8; until c continue A; end", "0,0 0,1 1,0 0,1 1,0 0,0 > 0 0 1 -1 -1 2"},
		// what is outside moves even where no state that is active needs it
		row{"c: bool) returns (y: i8) var n: i8;", "n = 0i8 fby (n + 1i8); automaton state A do y = -1i8; until c then B; state B do y = n; until true then A; end", "0 1 0 0 1 0 > -1 -1 2 -1 -1 5"},
		row{"c: bool) returns (y: i8) var n: i8;", "automaton state C do n = 0i8 fby (n + 1i8); end automaton state A do y = -1i8; until c then B; state B do y = n; until true then A; end", "0 1 0 0 1 0 > -1 -1 2 -1 -1 5"},
		row{"c: bool) returns (y: i8) var n: i8;", "n = 0i8 fby (n + 1i8); automaton state A do y = 1i8; until c then B; state B unless n = 5i8 then A; do y = 2i8; end", "0 1 0 0 0 0 > 1 1 2 2 2 1"},
		// what is in a state moves even where nobody needs it
		row{"c: bool) returns (y: i8)", "automaton state A var n: i8; do n = 0i8 fby (n + 1i8); automaton state P do y = -1i8; until c then Q; state Q do y = n; until true then P; end end", "0 1 0 0 1 0 > -1 -1 2 -1 -1 5"},
		// two beside each other, in one list
		row{"c: bool) returns (y, z: i8)", "automaton state A unless z = 1i8 then B; do y = 1i8; state B do y = 2i8; end automaton state C do z = 0i8; until c then D; state D do z = 1i8; until y = 2i8 then C; end", "0 1 0 0 > 1,0 1,0 2,1 2,0"},
		row{"c: bool) returns (y, z: i8)", "automaton state C do z = y; until y = 2i8 then C; end automaton state A do y = 1i8; until z = 1i8 then B; state B do y = 2i8; end", "0 0 > 1,1 2,2"},
	)
	// of an instance that is called on a slower clock, and by several
	tells(t, "node g(c: bool) returns (y: i8) let automaton state A do y = 0i8 fby (y + 1i8); until c then B; state B do y = 9i8; until true continue A; end tel node f(c, d: bool) returns (y, z: i8) var w: i8 when d; let w = g(when(c, d)); y = merge(d, w, -1i8); z = g(c); tel", "0,1 1,1 1,0 0,1 0,1 > 0,0 1,1 -1,9 9,2 2,3")
	tells(t, "node g(r: bool) returns (y: i8) let automaton state A do y = 0i8 fby (y + 1i8); until true then B; state B do y = 10i8 fby (y + 1i8); until y = 12i8 continue A; end tel node f(r: bool) returns (y: i8) let y = reset(g(r), r); tel", "0 0 0 0 0 1 0 0 1 > 0 10 11 12 1 0 10 11 0")
}

// TestP1101Order: the order of equations and of locals means nothing.
func TestP1101Order(t *testing.T) {
	parts := []string{"y = a + b;", "a = merge(c, z, when(0i8, not c));", "z = 0i8 fby (z + when(d, c));", "b = x;", "d = b + (0i8 -> pre d) * 0i8;", "w = merge(c, z + when(1i8 -> pre b, c) - 1i8, -1i8);"}
	for _, order := range [][]int{{0, 1, 2, 3, 4, 5}, {5, 4, 3, 2, 1, 0}, {3, 0, 5, 1, 4, 2}, {2, 5, 0, 4, 1, 3}} {
		body := ""
		for _, i := range order {
			body += parts[i]
		}
		for _, locals := range []string{"a, b, d: i8; z: i8 when c;", "z: i8 when c; d: i8; b: i8; a: i8;"} {
			tells(t, "node f(c: bool; x: i8) returns (y, w: i8) var "+locals+" let "+body+" tel", "1,1 0,2 1,3 1,4 0,5 > 1,0 2,-1 4,2 8,6 5,-1")
		}
	}
}

// refused asks for an error, and for nothing beside it.
func refused(t *testing.T, p api.Program, node string, ins [][]int, want api.Errno) {
	t.Helper()
	outs, e := stream.Run(p, node, ins)
	if e != want || e != api.OK && outs != nil {
		t.Errorf("%s of %d ticks: error %d, not %d; %v", node, len(ins), e, want, outs)
	}
}

// TestP1101Errors: each error, and which of two is told.
func TestP1101Errors(t *testing.T) {
	p := taken(t, "node g() returns (y: bool) let y = true; tel node f(x: i8; a: bool^2; u: u64) returns (y: i8) let y = x; tel node h(x: u8^0) returns (y: u8) let y = x; tel")
	long, wrong := make([][]int, api.MaxTicks+1), make([][]int, api.MaxTicks+1)
	for i := range long {
		long[i], wrong[i] = []int{1, 0, 1, -1}, []int{1}
	}
	for _, name := range []string{"", "F", "f ", "x", "nothing"} {
		refused(t, p, name, nil, api.ErrName)
		refused(t, p, name, long, api.ErrName)
		refused(t, p, name, wrong[:1], api.ErrName)
	}
	refused(t, api.Program{}, "f", nil, api.ErrName)
	refused(t, p, "f", long, api.ErrLong)
	refused(t, p, "f", wrong, api.ErrLong)
	refused(t, p, "f", long[:api.MaxTicks], api.OK)
	refused(t, p, "f", wrong[:api.MaxTicks], api.ErrCount)
	refused(t, p, "f", nil, api.OK)
	refused(t, p, "f", [][]int{}, api.OK)
	for text, want := range map[string]api.Errno{
		"1,0,1,-1": api.OK, "-128,1,1,0 127,0,0,-1": api.OK,
		"-": api.ErrCount, "1": api.ErrCount, "1,0,1": api.ErrCount, "1,0,1,2,3": api.ErrCount, "1,0,1,2 -": api.ErrCount, "128,2,2": api.ErrCount, "128,2,2,0,0": api.ErrCount,
		"128,0,1,2": api.ErrArg, "-129,0,1,2": api.ErrArg, "1,2,1,2": api.ErrArg, "1,0,-1,2": api.ErrArg, "1,0,1,2 1,0,2,2": api.ErrArg,
		"128,0,1,2 1": api.ErrArg, "1 128,0,1,2": api.ErrCount, "1,0,1,2 1 128,0,1,2": api.ErrCount, "1,0,1,2 128,0,1,2 1": api.ErrArg,
	} {
		refused(t, p, "f", ticks(t, text), want)
	}
	refused(t, p, "g", [][]int{{}, nil, {}}, api.OK)
	refused(t, p, "g", [][]int{{0}}, api.ErrCount)
	refused(t, p, "h", ticks(t, "0 255"), api.OK)
	refused(t, p, "h", ticks(t, "256"), api.ErrArg)
	refused(t, p, "h", ticks(t, "-1"), api.ErrArg)
	refused(t, p, "h", ticks(t, "-"), api.ErrCount)
}

// TestP1101Kinds: of each kind the least and the greatest value, and those beside them.
func TestP1101Kinds(t *testing.T) {
	for kind := api.Bool; kind <= api.U64; kind++ {
		p := api.Program{Nodes: []api.Node{{Name: "f", Ins: []api.Var{{Name: "x", T: api.Type{Kind: kind}}}, Outs: []api.Var{{Name: "y", T: api.Type{Kind: kind}}}, Items: []api.Item{{Names: []string{"y"}, E: api.Exp{Form: api.EVar, Name: "x"}}}}}}
		for bits := range 65 {
			for _, n := range []int{1<<bits - 1, 1 << bits, -1 << bits, -1<<bits - 1} {
				outs, e := stream.Run(p, "f", [][]int{{n}})
				if bv.Is(kind, n) && (e != api.OK || outs[0][0] != n) || !bv.Is(kind, n) && e != api.ErrArg {
					t.Errorf("kind %d, %d: error %d, %v", kind, n, e, outs)
				}
			}
		}
	}
}

// TestP1101Offset: an offset below 0, which Parse can't answer, is one modulo the period, too.
func TestP1101Offset(t *testing.T) {
	for _, offset := range []int{2, -1, -4, -3001, math.MinInt/3*3 - 1} {
		p := taken(t, "node f() returns (y: bool) let y = tick(3, 2); tel")
		p.Nodes[0].Items[0].E.M = offset
		if got := run(t, p, "f", ticks(t, "- - - - - -")); !same(got, ticks(t, "0 0 1 0 0 1")) {
			t.Errorf("%d: %v", offset, got)
		}
	}
}

// heavier is a program whose last node has so many expressions more: the first equation is put into that many brackets of its own.
func heavier(p api.Program, more int) api.Program {
	last := len(p.Nodes) - 1
	n := p.Nodes[last]
	n.Items = slices.Clone(n.Items)
	for range more {
		n.Items[0].E = api.Exp{Form: api.EUn, Sub: api.OpNot, Kids: []api.Exp{n.Items[0].E}}
	}
	return api.Program{Nodes: append(slices.Clone(p.Nodes[:last]), n)}
}

// TestP1101Weight: 20,000 expressions may be there, 20,001 not; whatever they are in.
func TestP1101Weight(t *testing.T) {
	const helpers = `node a(x: i8) returns (y: i8) let y = x + 1i8 + (0i8 -> pre x); tel
node b(x, z: i8) returns (y: i8) let y = a(a(x)) + z; tel
node d(x: i8) returns (y, z: i8) let y = a(x); z = b(x, x); tel
node c(x: bool) returns (y, z: i8) let (y, z) = d(b(1i8, 2i8)); tel
`
	for _, row := range []struct {
		text string
		want int
	}{
		{"y = x;", 1}, {"y = -5i8;", 1}, {"y = x + 1i8;", 3}, {"y = if x = 1i8 then x else 2i8;", 6}, {"y = 0i8 -> pre x;", 4}, {"y = 0i8 fby x;", 3}, {"y = merge(b, when(x, b), 1i8);", 4}, {"y = cast(i8, tick(2, 1));", 2}, {"y = [x, x, 1i8][1];", 5}, {"y = rep(x, 16)[3];", 3},
		{"y = a(x);", 2 + 8}, {"y = reset(a(x), b);", 3 + 8}, {"y = b(x, x);", 3 + 21}, {"y = x; (v, w) = c(true);", 3 + 4 + 34 + 21}, {"y = map(a, rep(x, 5))[0];", 4 + 5*8}, {"y = map(b, xs, xs)[0];", 4 + 3*21}, {"y = fold(b, x, rep(x, 16));", 4 + 16*21}, {"y = fold(b, x, xs);", 3 + 3*21},
		{"y = x; automaton state A do v = x; end", 2},
		{"y = x; automaton state A unless b then A; unless not b then B; do v = x; until x = 1i8 then B; until true continue A; state B do v = a(x); until b then A; end", 20},
		{"y = x; automaton state A var l: i8^2; do l = rep(x, 2); v = fold(b, x, l); end", 3 + 45},
		{"y = x; automaton state A do automaton state P unless b and b then P; do v = map(a, xs)[1]; until b then P; end until b then A; state B do v = x; end", 10 + 24},
		{"y = x; automaton state A var l: i8^2; do l = rep(x, 2); automaton state P do v = fold(b, x, l); state Q var k: i8^4; do k = rep(x, 4); v = fold(b, x, k); end state B var l: i8^3; do l = rep(x, 3); v = fold(b, x, l); end", 7 + 45 + 87 + 66},
	} {
		locals := ""
		switch {
		case strings.Contains(row.text, "(v, w)"):
			locals = "var v, w: i8;"
		case strings.Contains(row.text, "v = "):
			locals = "var v: i8;"
		}
		p := taken(t, helpers+"node f(x: i8; b: bool; xs: i8^3) returns (y: i8) "+locals+" let "+row.text+" tel")
		if got := weight(p, p.Nodes[len(p.Nodes)-1]); got != row.want {
			t.Errorf("%s: the oracle weighs %d, not %d", row.text, got, row.want)
		}
		onEdge(t, p, row.text, maxWeight-row.want)
	}
}

const maxWeight = 20000

// onEdge makes a program as heavy as may be, by so many expressions, then heavier.
func onEdge(t *testing.T, p api.Program, text string, more int) {
	t.Helper()
	ins := ticks(t, "1,0,1,2,3")
	if _, e := stream.Run(heavier(p, more), "f", ins); e != api.OK {
		t.Errorf("%s: error %d", text, e)
	}
	refused(t, heavier(p, more+1), "f", ins, api.ErrLong)
	refused(t, heavier(p, more+1), "f", nil, api.ErrLong)
	refused(t, heavier(p, more+1), "f", ticks(t, "1"), api.ErrLong)
	refused(t, heavier(p, more), "f", ticks(t, "1"), api.ErrCount)
	refused(t, heavier(p, more+1), "g", nil, api.ErrName)
}

// TestP1101TooMany: a weight beyond all numbers.
func TestP1101TooMany(t *testing.T) {
	var text strings.Builder
	text.WriteString("node n0(x: i8) returns (y: i8) let y = x; tel ")
	for i := 1; i < api.MaxNodes; i++ {
		ahead := "n" + strconv.Itoa(i-1)
		text.WriteString("node n" + strconv.Itoa(i) + "(x: i8) returns (y: i8) let y = " + strings.Repeat(ahead+"(", 16) + "x" + strings.Repeat(")", 16) + "; tel ")
	}
	p := taken(t, text.String())
	for i, want := range []api.Errno{api.OK, api.OK, api.OK, api.OK, api.ErrLong, api.ErrLong} {
		refused(t, p, "n"+strconv.Itoa(i), ticks(t, "1"), want)
	}
	refused(t, p, "n59", nil, api.ErrLong)
}
