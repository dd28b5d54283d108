package flat_test

import (
	"slices"
	"sort"
	"strconv"
	"strings"
	"testing"

	"metronome/api"
	"metronome/core"
	"metronome/flat"
	"metronome/gram"
	"metronome/lex"
)

// ticks reads a list of ticks: they are parted by blanks, the values of one by commas; a - alone is a tick without values.
func ticks(t *testing.T, text string) (all [][]int) {
	t.Helper()
	for _, one := range strings.Fields(text) {
		values := []int{}
		for _, digits := range strings.Split(one, ",") {
			if one == "-" {
				break
			}
			n, err := strconv.Atoi(digits)
			if err != nil {
				t.Fatal(err)
			}
			values = append(values, n)
		}
		all = append(all, values)
	}
	return all
}

// tells asks the last node of a program: an arrow stands between the inputs and what must be told.
func tells(t *testing.T, text, what string) {
	t.Helper()
	in, out, _ := strings.Cut(what, ">")
	p := taken(t, text)
	ins, want := ticks(t, in), ticks(t, out)
	name := p.Nodes[len(p.Nodes)-1].Name
	if got, e := core.Run(made(t, p, name), ins); e != api.OK || !same(got, want) {
		t.Errorf("%s\nof %v: error %d, %v, not %v", text, ins, e, got, want)
	}
	means(t, p, name, ins)
}

func TestP1201Examples(t *testing.T) {
	text := "node f(x: i8) returns (y: i8) let y = 0i8 -> pre y + x; tel"
	tells(t, text, "1 2 3 > 0 2 5")
	c := made(t, taken(t, text), "f")
	var kinds []int
	for _, v := range c.Locals {
		if slices.ContainsFunc(c.Eqs, func(q api.CEq) bool { return q.Name == v.Name && q.Form == api.CMem }) {
			kinds = append(kinds, v.Kind)
		}
	}
	if slices.Sort(kinds); !slices.Equal(kinds, []int{api.Bool, api.I8}) { // one tells the first tick, one is for the EPre
		t.Errorf("%+v", c)
	}
	const count = "node count() returns (n: u8) let n = 0u8 fby (n + 1u8); tel "
	tells(t, count+"node f(r: bool) returns (y: u8) let y = reset(count(), r); tel", "0 0 1 0 0 1 1 0 > 0 1 0 1 2 0 0 1")
	tells(t, "node f() returns (y: i8) let automaton state A do y = 0i8 fby (y + 1i8); until y = 2i8 then B; state B do y = -1i8; until true continue A; end tel", "- - - - - - > 0 1 2 -1 3 4")
	tells(t, "node f(x: i8) returns (y: i8) let y = x + (1i8 fby y); tel node g(x: i8) returns (y: i8) var fast: bool; z: i8 when fast; let fast = tick(2, 0); z = f(when(x, fast)); y = merge(fast, z, when(0i8 -> pre y, not fast)); tel", "1 2 3 4 5 6 > 2 2 5 5 10 10")
	tells(t, "node f() returns (y: bool) let y = tick(3, 1); tel", "- - - - - > 0 1 0 0 1")
	tells(t, "node f(c: bool) returns (y: i8) var z: i8 when c; let y = merge(c, z, when(0i8, not c)); z = 1i8 fby (z + 1i8); tel", "1 0 1 > 1 0 2")
}

// TestP1201Lives: memories begin anew, even where they are not active just then.
func TestP1201Lives(t *testing.T) {
	const slow = "node slow(x: i8; k: bool) returns (y: i8) var z: i8 when k; let z = 1i8 fby (z + when(x, k)); y = merge(k, z, 0i8); tel "
	tells(t, slow+"node f(x: i8; k, r: bool) returns (y: i8) let y = reset(slow(x, k), r); tel", "2,1,0 2,1,0 2,0,1 2,0,0 2,1,0 2,1,0 2,1,1 2,1,0 > 1 3 0 0 1 3 1 3")
	const arrow = "node slow(x: i8; k: bool) returns (y: i8) var z: i8 when k; let z = when(x, k) -> pre z + 1i8; y = merge(k, z, 0i8); tel "
	tells(t, arrow+"node f(x: i8; k, r: bool) returns (y: i8) let y = reset(slow(x, k), r); tel", "5,1,0 6,1,0 7,0,1 8,0,0 9,1,0 2,1,0 3,1,1 2,1,0 > 5 6 0 0 9 10 3 4")
	// the condition of a reset counts at the activations of its call alone
	tells(t, "node count() returns (n: i8) let n = 0i8 fby (n + 1i8); tel node f(c, r: bool) returns (y: i8) let y = merge(c, reset(count(), when(r, c)), -1i8); tel", "1,0 1,0 0,1 1,0 1,1 1,0 > 0 1 -1 2 0 1")
	// what is sampled counts at the activations of its variable, of which some are sampled
	tells(t, "node f(c, d: bool) returns (y: i8) var e: bool when c; z: i8 when c and e; let e = when(d, c); z = when(0i8 fby when(5i8, c), e) + when(1i8 -> pre when(7i8, c), e); y = merge(c, merge(e, z, -1i8), -2i8); tel", "0,1 1,1 0,1 1,1 1,0 0,0 1,1 > -2 1 -2 12 -1 -2 12")
	// a tick that is reset, and one on a clock
	tells(t, "node t() returns (b: bool) let b = tick(3, 1); tel node f(r: bool) returns (y: bool) let y = reset(t(), r); tel", "0 0 0 0 0 1 0 1 0 > 0 1 0 0 1 0 1 0 1")
	tells(t, "node f(c: bool) returns (y: bool) let y = merge(c, tick(3, 1), true); tel", "1 0 1 0 1 1 1 > 0 1 1 1 0 0 1")
	tells(t, "node f(c: bool) returns (y: bool) let y = merge(c, tick(1, 0), false); tel", "1 0 1 > 1 0 1")
	tells(t, "node f() returns (y, z: bool) let y = tick(64, 63); z = tick(1, 0); tel", "- - > 0,1 0,1")
	// of a list that begins anew an automaton is in its first state, unmarked, even if it was marked
	const auto = "node auto(c: bool) returns (y: i8) let automaton state A do y = 0i8 fby (y + 1i8); until c then B; state B do y = 10i8 fby (y + 1i8); until c continue A; end tel "
	tells(t, auto+"node f(c, r: bool) returns (y: i8) let y = reset(auto(c), r); tel", "0,0 1,0 0,0 1,0 0,0 0,1 1,0 0,1 0,0 > 0 1 10 11 2 0 1 0 1")
	tells(t, auto+"node f(c, k: bool) returns (y: i8) let y = merge(k, auto(when(c, k)), -1i8); tel", "0,1 1,0 1,1 1,0 0,1 0,1 1,1 0,1 > 0 -1 1 -1 10 11 12 2")
	// a state that begins anew lets all within it begin anew: calls, resets, automata
	tells(t, auto+"node f(c, d: bool) returns (y: i8) let automaton state P do y = auto(c); until d then Q; state Q do y = -1i8; until d then P; end tel", "1,0 0,0 0,1 0,0 0,1 0,0 1,0 > 0 10 11 -1 -1 0 1")
	tells(t, auto+"node f(c, d: bool) returns (y: i8) let automaton state P do y = auto(c); until d then Q; state Q do y = -1i8; until d continue P; end tel", "1,0 0,0 0,1 0,0 0,1 0,0 1,0 > 0 10 11 -1 -1 12 13")
	tells(t, "node f(d: bool) returns (y: i8) let automaton state P do y = 0i8 fby (y + 1i8); until d then P; end tel", "0 0 1 0 1 1 0 > 0 1 2 0 1 0 0")
	tells(t, "node f(d: bool) returns (y: i8) let automaton state P unless d then P; do y = 0i8 fby (y + 1i8); end tel", "0 0 1 0 1 1 0 > 0 1 0 1 0 0 1")
	// a mark that unless takes away, and one that until sets for a state that unless leaves
	tells(t, "node f(c, d: bool) returns (y: i8) let automaton state A unless d continue B; do y = 0i8 fby (y + 1i8); until c then A; state B unless d continue A; do y = 50i8 fby (y + 1i8); until c then A; end tel", "0,0 0,0 1,0 0,0 0,1 0,0 1,0 0,0 1,0 0,1 0,1 > 0 1 2 0 50 51 52 0 1 53 2")
	// a state that is never left, and one that is never come to
	tells(t, "node f(c: bool) returns (y: i8) let automaton state A do y = 0i8 fby (y + 1i8); until c continue B; state B do y = 7i8; state C do y = 0i8 fby (y + 2i8); until c then A; end tel", "0 0 1 0 1 0 > 0 1 2 7 7 7")
}

// TestP1201Anew: each memory within a reset begins anew with it, even if nobody could tell: what was in a life ahead is forgotten.
func TestP1201Anew(t *testing.T) {
	p := taken(t, "node g(x: i8; c: bool) returns (y: i8) var z: i8 when c; w: i8; let z = (0i8 -> pre when(x, c)) + (when(x, c) fby z) + (1i8 fby z) + cast(i8, tick(2, 1)); w = merge(c, z, 0i8); automaton state A do y = w; until c then B; state B do y = x -> pre y; until c continue A; end tel node f(x: i8; c, r: bool) returns (y: i8) let y = reset(g(x, c), r); tel")
	memories := 0
	for _, q := range made(t, p, "f").Eqs {
		if q.Form == api.CMem {
			memories++
			if q.Reset == "" {
				t.Errorf("%+v", q)
			}
		}
	}
	if memories < 7 {
		t.Error(memories)
	}
}

// Bodies of a node g0(x: i8; c, d: bool) returns (y: i8), all with memories.
var kernels = []string{
	"y = 0i8 -> pre x;", "y = x fby (y + 1i8);", "y = (1i8 fby y) + x;", "y = cast(i8, tick(3, 1));", "y = x -> (pre y - 1i8);", "y = if c then (0i8 fby x) else (x -> pre x);", "y = merge(c, 1i8 fby when(x, c), when(x, not c) fby 5i8);",
	"automaton state P do y = 0i8 fby (y + 1i8); until y = 2i8 then Q; state Q do y = x; until c continue P; end",
	"automaton state P unless c then Q; do y = x -> (pre y + 1i8); state Q unless d continue P; do y = 50i8 fby (y + 1i8); until c then Q; end",
	"y = (0i8 fby [x, 1i8, 2i8 fby y][2]) + fold(add, x, rep(1i8, 2) fby [x, 3i8]);",
}

// Contexts are bodies of a node of the same inputs and output, with locals, that call the node G.
var contexts = []string{
	"let y = G(x, c, d);", "let y = reset(G(x, c, d), d);", "let y = reset(G(x, d, true), false fby c);", "let y = 0i8 -> pre G(x, c, d);", "let y = G(x, c, d) fby G(x, d, c);", "let y = if c then G(x, c, d) else G(-x, d, c);", "let y = fold(add, 0i8, map(G, [x, -x], [c, d], [d, c]));",
	"var z: i8 when c; let z = G(when(x, c), when(d, c), when(x > 2i8, c)); y = merge(c, z, when(0i8 -> pre y, not c));", "var z: i8 when c; let z = reset(G(when(x, c), when(d, c), true), when(d, c)); y = merge(c, z, -1i8);", "let y = merge(d, when(x, d), G(when(x, not d), when(c, not d), false));", "var z: i8 when c; let z = when(G(x, c, d), c); y = merge(c, z, 0i8);",
	"var e: bool when c; z: i8 when c and not e; let e = when(d, c); z = G(1i8, when(when(x > 0i8, c), not e), true); y = merge(c, merge(e, 1i8 fby when(when(x, c), e), z), 3i8);",
	"var e: bool when c; z: i8 when c and e; let e = when(d, c); z = when(G(when(x, c), when(d, c), true), e); y = merge(c, merge(e, z, -1i8), -2i8);",
	"let automaton state A do y = G(x, c, d); until c then B; state B do y = 100i8 - x; until d continue A; end", "let automaton state A unless d continue B; do y = G(x, c, d); until c then A; state B unless c then A; do y = reset(G(x, d, c), c); until d continue B; end", "let automaton state A do y = G(x, c, d); until d then A; end",
	"let automaton state A var l: bool; n: i8 when l; do l = x > 2i8; n = G(when(x, l), when(d, l), when(c, l)); y = merge(l, n, 0i8); until c then B; state B var n: i8 when not c; do n = reset(G(1i8, true, when(d, not c)), when(d, not c)); y = merge(c, 9i8, n); until d then A; end",
	"let automaton state A do automaton state P do y = G(x, c, d); until c then Q; state Q do y = x; until d continue P; end until x > 5i8 then B; state B do y = G(x, d, c); until c continue A; until d then A; end",
}

// TestP1201Contexts has each kernel within each context, within each other one.
func TestP1201Contexts(t *testing.T) {
	ins := [][]int{}
	for i := range 60 {
		ins = append(ins, []int{i*i%23 - 9, i / 2 % 2 * (1 - i%5/4), (i*7 + 3) % 11 / 6})
	}
	node := func(n int, body, calls string) string {
		return "node g" + strconv.Itoa(n) + "(x: i8; c, d: bool) returns (y: i8) " + strings.ReplaceAll(body, "G", calls) + " tel "
	}
	const add = "node add(a, b: i8) returns (s: i8) let s = a + b; tel "
	for _, kernel := range kernels {
		inner := add + node(0, "let "+kernel, "")
		p := taken(t, inner)
		means(t, p, "g0", ins)
		for _, context := range contexts {
			outer := inner + node(1, context, "g0")
			for _, last := range contexts {
				text := outer + node(2, last, "g1")
				means(t, taken(t, text), "g2", ins)
			}
		}
	}
}

// TestP1201InsOuts: the inputs and outputs, in order, element by element.
func TestP1201InsOuts(t *testing.T) {
	p := taken(t, "node f(a: i8^2; a__0, x: bool; b: u64^1) returns (o: i8^3; o__1: bool; ok: bool) let o = [a[1], a[0], 3i8]; o__1 = a__0; ok = x and (b[0] > 5u64); tel")
	c := made(t, p, "f")
	means(t, p, "f", [][]int{{1, 2, 1, 0, 7}, {3, 4, 0, 1, -7}, {5, 6, 1, 1, 5}})
	if c.Outs[4].Name != "ok" || c.Ins[3].Name != "x" {
		t.Errorf("%+v, %+v", c.Ins, c.Outs)
	}
	for _, list := range [][]api.CVar{c.Ins, c.Outs, c.Locals} {
		for _, v := range list {
			if len(v.Clock) > 0 {
				t.Errorf("%+v", v)
			}
		}
	}
	means(t, taken(t, "node f(x: i8) returns (y, z: i8) let y = x; z = y; tel"), "f", [][]int{{1}, {2}})
	means(t, taken(t, "node g(x: i8) returns (y, z: i8) let y = x; z = x + 1i8; tel node f(x: i8) returns (y, z: i8) let (z, y) = g(x); tel"), "f", [][]int{{1}, {2}})
	means(t, taken(t, "node f(first, part, count, constant, tick__1: i8) returns (y: i8) var pre__1, fby__1: i8; let pre__1 = first -> pre part; fby__1 = count fby tick__1; y = if pre__1 > fby__1 then constant else -(first fby constant); tel"), "f", [][]int{{1, 2, 3, 4, 5}, {2, 3, 4, 5, 6}, {3, 4, 5, 6, 9}})
}

func TestP1201Name(t *testing.T) {
	p := taken(t, "node f(x: i8) returns (y: i8) let y = x; tel node g(x: i8) returns (y: i8) let y = f(x) + 1i8; tel")
	for _, name := range []string{"", "h", "F", "f ", "x"} {
		if c, e := flat.Make(p, name); e != api.ErrName || !isNothing(c) {
			t.Errorf("%q: error %d, %+v", name, e, c)
		}
	}
	if c, e := flat.Make(api.Program{}, "f"); e != api.ErrName || !isNothing(c) {
		t.Errorf("error %d, %+v", e, c)
	}
	tells(t, "node f(x: i8) returns (y: i8) let y = x; tel node g(x: i8) returns (y: i8) let y = f(x) + 1i8; tel", "1 2 > 2 3")
	means(t, p, "f", [][]int{{1}})
}

// family is a program of a size whose last node is asked.
type family struct {
	name string
	text func(n int) string
}

func times(n int, text string) string {
	all := ""
	for i := range n {
		all += strings.ReplaceAll(text, "#", strconv.Itoa(i))
	}
	return all
}

// families need more variables for a part than most.
var families = []family{
	{"ticks of states", func(n int) string {
		return "node f(c: bool) returns (y: bool) let automaton" + times(min(n, 16), " state S# do y = tick(2, 0); until c then S"+strconv.Itoa(min(n, 16)-1)+";") + " end tel"
	}},
	{"automata", func(n int) string {
		return "node g() returns (y: bool) let automaton state A do y = tick(2, 0); until y then B; state B do automaton state P do y = tick(3, 1); until y continue P; end until y then A; end tel node f() returns (z: bool) var " + times(n, "y#: bool; ") + "let z = true;" + times(n, " y# = reset(g(), z);") + " tel"
	}},
	{"clocks", func(n int) string {
		return "node f(c: bool) returns (z: bool) var " + times(n, "k#, l#: bool; y#, w#: bool when k#; x#, v#: bool when not k#; ") + "let z = c;" + times(n, " k# = c; l# = c; y# = tick(3, 1); w# = true fby w#; x# = false fby tick(3, 1); v# = true -> true;") + " tel"
	}},
	{"resets", func(n int) string {
		return "node g() returns (y: bool) let y = tick(3, 2); tel node f(c: bool) returns (z: bool) var " + times(n, "y#: bool; ") + "let z = c;" + times(n, " y# = reset(g(), not c);") + " tel"
	}},
	{"memories", func(n int) string {
		return "node f(c: bool) returns (z: bool) var " + times(n, "y#, x#: bool; ") + "let z = c;" + times(n, " y# = c -> pre y#; x# = c fby x#;") + " tel"
	}},
	{"merges", func(n int) string {
		return "node f(c: bool) returns (z: bool) var " + times(n, "k#, y#: bool; ") + "let z = c;" + times(n, " k# = c; y# = merge(k#, true -> tick(2, 0), tick(2, 1));") + " tel"
	}},
	{"arrays", func(n int) string {
		return "node g(a: bool^16) returns (b: bool^16) let b = a fby a; tel node h(a: bool) returns (b: bool) let b = a; tel node f(c: bool) returns (z: bool) var " + times(n, "y#: bool^16; ") + "let z = c;" + times(n, " y# = reset(g(map(h, rep(c, 16))), c);") + " tel"
	}},
	{"inputs", func(n int) string {
		return "node f(" + times(n, "x#: i8^16; ") + "c: bool) returns (z: bool) let z = c; tel"
	}},
	{"outputs", func(n int) string {
		return "node f(c: bool) returns (" + times(n, "x#: i8; ") + "z: bool) let z = c;" + times(n, " x# = 1i8;") + " tel"
	}},
	{"a long sum", func(n int) string {
		return "node f(x: i8) returns (y: i8) let y = x" + times(n, " + x") + "; tel"
	}},
}

// TestP1201Room: what has room enough is never too long; what is too long is told so, with nothing beside it.
func TestP1201Room(t *testing.T) {
	for _, f := range families {
		most := sort.Search(259, func(n int) bool { // the greatest that has room
			p, _, e := gram.Parse(f.text(n + 1))
			return e != api.OK || room(p, p.Nodes[len(p.Nodes)-1]) > api.MaxEqs
		})
		for _, n := range []int{1, 2, most / 2, most} {
			p := taken(t, f.text(max(1, n)))
			node := p.Nodes[len(p.Nodes)-1]
			vars, _ := sizes(made(t, p, node.Name))
			if vars > room(p, node) {
				t.Errorf("%s, %d: %d variables, but %d", f.name, n, vars, room(p, node))
			}
		}
	}
	for _, text := range []string{families[7].text(125), families[6].text(80), families[1].text(195)} {
		p := taken(t, text)
		if c, e := flat.Make(p, "f"); e != api.ErrLong || !isNothing(c) {
			t.Errorf("%.200s: error %d, %d equations", text, e, len(c.Eqs))
		}
	}
	// as many as a flat program may have, and one more
	full := func(n int) string {
		return "node f(" + times(124, "x#: i8^16; ") + times(n, "y#: i8; ") + "c: bool) returns (z: bool) let z = c; tel"
	}
	if c := made(t, taken(t, full(14)), "f"); len(c.Ins) != 1999 {
		t.Errorf("%d inputs", len(c.Ins))
	}
	if c, e := flat.Make(taken(t, full(15)), "f"); e != api.ErrLong || !isNothing(c) {
		t.Errorf("error %d", e)
	}
}

// TestP1201Tokens: a program of at most 200 tokens that calls no node twice is never too long.
func TestP1201Tokens(t *testing.T) {
	for _, f := range families {
		if f.name == "arrays" || f.name == "inputs" {
			continue
		}
		for n := range 60 {
			text := f.text(n + 1)
			list, _, e := lex.Tokens(text)
			if e != api.OK || len(list) > 200 {
				break
			}
			made(t, taken(t, text), "f")
		}
	}
	chain := "node g0(x: bool) returns (y: bool) let y = tick(2, 0); tel "
	for i := 1; i < 9; i++ {
		chain += "node g" + strconv.Itoa(i) + "(x: bool) returns (y: bool) let y = reset(g" + strconv.Itoa(i-1) + "(x), x); tel "
		made(t, taken(t, chain), "g"+strconv.Itoa(i))
	}
}

// TestP1201Great: expressions that are more than an equation may have are parted.
func TestP1201Great(t *testing.T) {
	ins := [][]int{{1}, {2}, {-3}}
	for _, n := range []int{100, 398, 399, 400, 401, 499, 500, 999, 1000, 1001, 4000} {
		means(t, taken(t, "node f(x: i8) returns (y: i8) let y = x"+times(n, " + x")+"; tel"), "f", ins)
	}
	sum := "x" + times(40, " + x")
	for range 5 {
		sum = "(if x > (" + sum + ") then (" + sum + ") else 1i8)"
	}
	means(t, taken(t, "node f(x: i8) returns (y: i8) let y = "+sum+"; tel"), "f", ins)
	means(t, taken(t, "node f(x: i8) returns (y: i8) let y = x"+times(9900, " + x")+"; tel"), "f", ins)
	// automata whose choices are within one another
	deep := "y = x;"
	for i := range 35 {
		deep = "automaton" + times(15, " state S"+strconv.Itoa(i)+"# do y = #i8; until x > #i8 then S"+strconv.Itoa(i)+"15;") + " state S" + strconv.Itoa(i) + "15 do " + deep + " until x < 0i8 then S" + strconv.Itoa(i) + "0; end"
	}
	p := taken(t, "node f(x: i8) returns (y: i8) let "+deep+" tel")
	means(t, p, "f", slices.Repeat([][]int{{1}, {9}, {20}, {30}, {-3}}, 20))
}
