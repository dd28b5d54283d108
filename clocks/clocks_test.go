package clocks

import (
	"strconv"
	"strings"
	"testing"

	"metronome/api"
	"metronome/gram"
	"metronome/names"
	asked "metronome/types"
)

// parsed is the program of a text, whose names and types must be right.
func parsed(t *testing.T, text string) api.Program {
	t.Helper()
	p, at, e := gram.Parse(text)
	if e != api.OK {
		t.Fatalf("%s: error %d at %d", text, e, at)
	}
	if at, e := names.Check(p); e != api.OK {
		t.Fatalf("%s: names: error %d at %d", text, e, at)
	}
	if at, e := asked.Check(p); e != api.OK {
		t.Fatalf("%s: types: error %d at %d", text, e, at)
	}
	return p
}

// holds asks the program of a text, in which an @ marks where its clocks are wrong; without one they are right.
func holds(t *testing.T, text string) {
	t.Helper()
	at, want := strings.IndexByte(text, '@'), api.ErrClock
	if at < 0 {
		at, want = 0, api.OK
	}
	text = strings.Replace(text, "@", "", 1)
	if got, e := Check(parsed(t, text)); got != at || e != want {
		t.Errorf("%s: error %d at %d, not %d at %d", text, e, got, want, at)
	}
}

func holdsAll(t *testing.T, ahead string, texts ...string) {
	t.Helper()
	for _, text := range texts {
		holds(t, ahead+text+" tel")
	}
}

// Nodes that expressions may call.
const callable = `node none() returns (o: i8) let o = 1i8; tel
node nones() returns (o, p: i8) let o = 1i8; p = 1i8; tel
node neg(i: i8) returns (o: i8) let o = -i; tel
node two(i: i8) returns (o, p: i8) let o = i; p = i; tel
node add(i, j: i8) returns (o: i8) let o = i + j; tel
`

// A node with variables on the base (x, y, b, c, d), on c (u, v, e), on not c (w), on c and d (k), on c and e (q), on not c and not f (r), on d (m).
const around = callable + `node f(x: i8; xs: i8^2; b, c, d: bool) returns (y, z: i8) var u, v: i8 when c; e: bool when c; us: i8^2 when c; w: i8 when not c; f: bool when not c; q: i8 when c and e; r: i8 when not c and not f; m: i8 when d;
let e = true; f = true; us = [1i8, 2i8]; w = 1i8; q = 1i8; r = 1i8; m = 1i8; z = 1i8; `

func TestP801Examples(t *testing.T) {
	const head = "node f(x: i8; c: bool) returns (y: i8) var z: i8 when c; let "
	holdsAll(t, head, "y = x; z = when(x, c);", "y = x; @z = x;", "y = merge(c, z, when(0i8, not c)); z = 1i8;", "y = @z + x; z = 1i8;", "y = 1i8; z = @z + x;")
	holds(t, "node f(x: i8) returns (y: i8) let y = x; tel node g(x: i8) returns (y: i8) var fast: bool; z: i8 when fast; let fast = tick(2, 0); z = f(when(x, fast)); y = merge(fast, z, when(0i8 -> pre y, not fast)); tel")
	holds(t, "")
}

func TestP801Locals(t *testing.T) {
	const head = "node f(b, c: bool) returns (y: bool) var "
	for _, locals := range []string{
		"l: bool when b;", "l: bool when not b;", "l: bool when y;", "l: bool when b; m: i8 when b and l;", "l: bool when not b; m: i8 when not b and l; n: i8 when not b and not l;", "m: i8 when b and not l; l: bool when b;", "l: bool when b; k: bool when b and not l; n: i8 when b and not l and k;", "l: bool; m: i8 when l;",
		"@l: bool when b and c;", "@l: bool when b and not b;", "l: bool when b; @m: i8 when l;", "l: bool when b; @m: i8 when not b and l;", "l: bool when b; @m: i8 when c and l;", "l: bool when b; m: bool when b; @n: i8 when b and l and m;", "l: bool when b; m: bool when b and l; @n: i8 when b and not l and m;", "l: bool when b; m: bool when b and l; @n: i8 when b and m;", "l: bool when b; m: bool when b and l; @n: i8 when m;", "@l: bool when m; m: bool when l;", "@l: bool when b and m; m: bool when b and l;", "l: bool; @m: i8 when l and b;",
		"l: bool when b; @m, n: i8 when l;", "l: bool when b; m: bool when b and l; @n: i8 when b and l and m and c; k: i8 when b and c;",
	} {
		defined := ""
		for _, name := range []string{"k", "l", "m", "n"} {
			for _, kind := range []string{"bool", "i8"} {
				if strings.Contains(locals, name+": "+kind) || strings.Contains(locals, name+", n: "+kind) {
					defined += " " + name + map[string]string{"bool": " = true;", "i8": " = 1i8;"}[kind]
				}
			}
		}
		holds(t, head+locals+" let y = b;"+defined+" tel")
	}
}

// TestP801Forms asks each form: of any, of one clock, of two.
func TestP801Forms(t *testing.T) {
	holdsAll(t, around,
		"u = 1i8; v = -1i8; y = 2i8;", "u = cast(i8, tick(2, 0)); v = -cast(i8, false); y = cast(i8, tick(3, 1));", "u = v; v = u; y = x;", "u = -v; v = cast(i8, e); y = not x;", "u = v + v; v = u + 1i8; y = 1i8 + x;", "u = @v + x; v = 1i8; y = x;", "u = 1i8; v = @x + v; y = x;", "u = -(@x + v); v = 1i8; y = x;",
		"u = if e then v else 1i8; v = if true then 1i8 else u; y = if b then x else y;", "u = @if b then v else u; v = 1i8; y = x;", "u = @if e then x else v; v = 1i8; y = x;", "u = @if e then v else x; v = 1i8; y = x;", "u = @if true then v else x; v = 1i8; y = x;",
		"u = pre v; v = pre pre u; y = pre x;", "u = 1i8 -> v; v = u -> 1i8; y = x -> pre y;", "u = @x -> v; v = 1i8; y = x;", "u = @v -> x; v = 1i8; y = x;", "u = 1i8 fby v; v = u fby v; y = x fby y;", "u = @x fby v; v = 1i8; y = x;", "u = @v fby x; v = 1i8; y = x;",
		"u = none(); v = none(); y = none();", "u = neg(v); v = neg(1i8); y = neg(x);", "u = add(v, 1i8); v = add(1i8, u); y = add(x, y);", "u = @add(v, x); v = 1i8; y = x;", "u = @add(x, v); v = 1i8; y = x;",
		"u = reset(none(), e); v = reset(none(), true); y = reset(none(), b);", "u = reset(neg(v), e); v = reset(neg(1i8), e); y = reset(neg(x), tick(2, 0));", "u = @reset(neg(v), b); v = 1i8; y = x;", "u = @reset(neg(x), e); v = 1i8; y = x;", "u = 1i8; v = 1i8; y = @reset(neg(x), e);", "u = @reset(add(v, x), true); v = 1i8; y = x;",
		"u = [v, 1i8][0]; v = us[1]; y = [x, y][1];", "u = @[v, x][0]; v = 1i8; y = x;", "u = @[x, 1i8, v][0]; v = 1i8; y = x;", "u = @[x, v][0]; v = 1i8; y = x;", "u = rep(v, 3)[1]; v = rep(1i8, 2)[0]; y = rep(x, 2)[0];", "u = rep(@v + x, 2)[0]; v = 1i8; y = x;",
		"u = map(neg, us)[0]; v = map(add, us, [u, 1i8])[1]; y = map(add, xs, [1i8, 2i8])[0];", "u = @map(add, us, xs)[0]; v = 1i8; y = x;", "u = @map(add, xs, us)[0]; v = 1i8; y = x;", "u = fold(add, v, us); v = fold(add, 1i8, us); y = fold(add, x, xs);", "u = @fold(add, x, us); v = 1i8; y = x;", "u = @fold(add, v, xs); v = 1i8; y = x;", "u = fold(add, 1i8, [1i8]); v = fold(add, none(), map(neg, [1i8])); y = fold(add, none(), map(neg, [1i8]));",
		"u = @v + w; v = 1i8; y = x;", "u = @v + q; v = 1i8; y = x;", "u = @q + v; v = 1i8; y = x;", "u = @v + m; v = 1i8; y = x;", "u = @v + r; v = 1i8; y = x;",
	)
}

func TestP801When(t *testing.T) {
	const rest = " v = 1i8; y = x;"
	holdsAll(t, around,
		"u = when(x, c);"+rest, "u = when(1i8, c);"+rest, "u = when(x + 1i8, c) + v;"+rest, "u = when(none(), c); v = when(neg(x), c); y = x;",
		"@u = when(x, not c);"+rest, "@u = when(x, d);"+rest, "@u = when(1i8, d);"+rest, "u = @when(v, c);"+rest, "u = @when(w, c);"+rest, "@u = when(v, e);"+rest, "@u = when(when(x, c), e);"+rest, "u = @when(x, e);"+rest, "u = when(@x + v, c);"+rest, "u = @when(q, e);"+rest,
		"u = v; v = merge(e, when(when(x, c), e), when(u, not e)); y = x;", "u = merge(e, q, when(v, not e));"+rest, "u = merge(e, when(v, e), 1i8);"+rest,
	)
	const head = "node f(x: i8; c, d: bool) returns (y: i8) var e: bool when c; l: i8 when c and e; let e = true; y = x; "
	holdsAll(t, head, "l = when(when(x, c), e);", "l = when(1i8, e);", "@l = when(1i8, c);", "@l = when(when(x, c), not e);", "@l = when(1i8, not e);", "l = @when(when(x, not c), e);", "l = @when(x, e);", "l = @when(when(x, d), e);", "@l = when(x, c);", "@l = x;", "l = l;", "l = @when(l, e);")
}

func TestP801Merge(t *testing.T) {
	const rest = " v = 1i8; u = 1i8;"
	holdsAll(t, around,
		"y = merge(c, u, w);"+rest, "y = merge(c, 1i8, w);"+rest, "y = merge(c, u, 1i8);"+rest, "y = merge(c, 1i8, 2i8);"+rest, "y = merge(c, u, w) + x;"+rest, "y = merge(c, merge(e, q, 1i8), merge(f, 1i8, r));"+rest, "y = merge(b, 1i8, none());"+rest,
		"y = @merge(c, w, u);"+rest, "y = @merge(c, u, u);"+rest, "y = @merge(c, w, w);"+rest, "y = @merge(c, x, w);"+rest, "y = @merge(c, u, x);"+rest, "y = @merge(c, x, 1i8);"+rest, "y = @merge(c, 1i8, x);"+rest, "y = @merge(d, u, 1i8);"+rest, "y = @merge(c, q, w);"+rest, "y = @merge(c, u, r);"+rest, "y = @merge(c, m, w);"+rest, "y = @merge(b, u, w);"+rest,
		"@y = merge(e, q, 1i8);"+rest, "@y = merge(e, 1i8, 2i8);"+rest, "y = @merge(e, u, 1i8);"+rest, "y = @merge(c, merge(f, 1i8, r), w);"+rest, "y = merge(c, @merge(e, q, q), merge(f, r, r));"+rest, "y = merge(c, u, @merge(f, r, r));"+rest, "y = @merge(c, u, w) + v;"+rest, "y = merge(c, @u + w, w + u);"+rest,
	)
}

func TestP801Equations(t *testing.T) {
	holdsAll(t, around,
		"@y = u; u = 1i8; v = 1i8;", "@u = x; v = 1i8; y = x;", "u = 1i8; @v = y; y = x;", "@u = w; v = 1i8; y = x;", "@u = q; v = 1i8; y = x;", "@u = m; v = 1i8; y = x;", "u = 1i8; v = 1i8; @y = when(x, c);", "u = 1i8; v = 1i8; @y = w;",
		"(u, v) = two(u); y = x;", "(u, v) = two(1i8); y = x;", "(u, v) = nones(); y = x;", "(u, v) = reset(nones(), e); y = x;", "(u, v) = reset(two(1i8), true); y = x;", "@(u, v) = two(x); y = x;", "@(u, y) = two(u); v = 1i8;", "@(u, y) = two(x); v = 1i8;", "@(y, u) = two(x); v = 1i8;", "@(u, y) = two(1i8); v = 1i8;", "@(y, u) = nones(); v = 1i8;", "@(y, u) = reset(nones(), true); v = 1i8;", "(u, y) = two(@v + x); v = 1i8;", "@(u, v) = reset(two(1i8), b); y = x;",
	)
	holds(t, "node two(i: i8) returns (o, p: i8) let o = i; p = i; tel node f(x: i8; c: bool) returns (y: i8) var l: i8 when c; m: i8 when not c; let y = x; @(l, m) = two(1i8); tel")
	holds(t, "node three() returns (o, p, q: i8) let o = 1i8; p = 1i8; q = 1i8; tel node f(x: i8; c: bool) returns (y: i8) var l, m: i8 when c; n: i8 when not c; let y = x; @(l, m, n) = three(); tel")
	holds(t, "node three() returns (o, p, q: i8) let o = 1i8; p = 1i8; q = 1i8; tel node f(x: i8; c: bool) returns (y: i8) var l, m, n: i8 when c; let y = x; (l, m, n) = three(); tel")
}

// A node with u on c, defined ahead of an automaton that defines y.
const ahead = callable + "node f(x: i8; b, c: bool) returns (y: i8) var u: i8 when c; e: bool when c; let u = 1i8; e = true; automaton "

func TestP801States(t *testing.T) {
	for _, states := range []string{
		"state A do y = x; end", "state A do y = merge(c, when(x, c), 1i8); end", "state A do y = 1i8; until b then A; until true continue A; until merge(c, true, when(b, not c)) then A; end",
		"state A do @y = u; end", "state A do @y = merge(c, u, 1i8); end", "state A do @y = merge(c, when(1i8, c), when(x + u, c)); end", "state A do @y = merge(c, merge(e, 1i8, 2i8), 1i8); end", "state A do @y = merge(c, when(1i8, e), 1i8); end", "state A do y = 1i8 + (@x + when(x, c)); end", "state A do @y = x + (x + u); end", "state A do @y = when(x, c); end",
		"state A unless @when(b, c) then A; do y = x; end", "state A unless b then A; unless @e then A; do y = x; end", "state A unless @merge(c, e, false) then A; do y = x; end", "state A unless not (@b and when(b, c)) then A; do y = x; end", "state A unless @b and (b and e) then A; do y = x; end", "state A unless merge(c, when(b, c), false) then A; do y = x; end", "state A unless not @merge(c, b, false) then A; do y = x; end",
		"state A do y = x; until @when(b, c) then A; end", "state A do y = x; until b then A; until @e then A; end", "state A do y = x; until @merge(c, e, false) then A; end", "state A do y = x; until not (@b and when(b, c)) then A; end", "state A do y = x; until @not (b and e) then A; end",
		"state A do y = x; state B do @y = u; end", "state A do y = x; state B unless @e then A; do y = x; end", "state A do y = x; state B do y = x; until @e then A; end", "state A do y = x; until @e then A; state B do y = u; end",
		"state A var l: i8 when c; do l = when(x, c); y = merge(c, l, 1i8); end", "state A var l: i8 when c; do @l = x; y = x; end", "state A var l: i8 when c; do l = 1i8; @y = l; end", "state A var l: i8 when c; do @l = u; y = x; end", "state A var l: i8 when c; do @l = 1i8 fby (l + u); y = x; end", "state A var l: bool when c; do l = true; y = x; until @l then A; end", "state A var l: bool when c; do l = true; y = x; until merge(c, l, false) then A; end", "state A var l: bool when c; do l = true; y = x; until not @merge(c, l, l) then A; end",
		"state A var l: bool when c; m: i8 when c and not l; do l = true; m = when(when(x, c), not l); y = merge(c, merge(l, 1i8, m), 0i8); end", "state A var l: bool; m: i8 when l; do l = b; m = 1i8; y = x; end", "state A var m: i8 when l; l: bool; do l = b; m = 1i8; y = x; end",
		"state A var @l: i8 when c and e; do l = 1i8; y = x; end", "state A var @l: i8 when e; do l = 1i8; y = x; end", "state A var @l: i8 when b and c; do l = 1i8; y = x; end", "state A var l: bool when c; @m: i8 when l; do l = true; m = 1i8; y = x; end", "state A var l: bool when c; @m: i8 when b and l; do l = true; m = 1i8; y = x; end", "state A unless e then A; var @l: i8 when b and c; do l = 1i8; y = u; end", "state A var l: i8 when c; do l = 1i8; y = merge(c, l, 1i8); state B var l: i8; do l = x; y = l; state C var l: i8 when not c; do l = 1i8; y = merge(c, 1i8, l); end",
		"state A unless @e then A; var l: i8 when c; do l = x; y = u; end",
		// the expression's names, its parts, what it defines
		"state A do @y = u + (x + u); end", "state A unless @e and (e and b) then A; do y = x; end", "state A do @y = neg(x + u); end",
		// automata in states
		"state A do automaton state B do y = x; until b then B; end end", "state A do automaton state B do @y = u; end end", "state A do automaton state B unless @e then B; do y = x; end end", "state A do automaton state B do y = x; until @e then B; end end", "state A do automaton state B do y = x; end until @e then A; end", "state A var l: i8 when c; do l = 1i8; automaton state B do @y = merge(c, l, 1i8); end end", "state A var l: bool when c; do l = true; automaton state B unless @merge(c, l, b) then B; do y = x; end end", "state A var l: bool when c; do l = true; automaton state B unless @merge(c, l, false) then B; do y = x; end end", "state A var l: bool when c; do l = true; automaton state B do y = x; until @merge(c, l, false) then B; end end",
		"state A var l: bool; do l = true; automaton state B var m: i8 when l; do m = 1i8; y = merge(l, m, 1i8); end end", "state A var l: bool when c; do l = true; automaton state B var @m: i8 when c and l; do m = 1i8; y = x; end end", "state A var l: bool when c; do automaton state B do @l = true; end y = x; end", "state A var l: bool when c; do automaton state B do @l = when(b, c); end y = x; end", "state A var l: bool when c; do l = true; automaton state B do y = x; end until merge(c, l, false) then A; end", "state A var l: bool when c; do automaton state B var m: i8 when c; do m = 1i8; y = merge(c, m, 0i8); end l = true; end",
	} {
		holds(t, ahead+states+" tel")
	}
}

// TestP801Defines: what states define from outside is on the base; an expression's names are asked ahead of its parts, those that are defined behind them.
func TestP801Defines(t *testing.T) {
	const head = "node f(x: i8; b, c: bool) returns (y: i8) var u, v: i8 when c; let y = x; v = 1i8; automaton state A do "
	holdsAll(t, head, "@u = when(x, c); end", "@u = 1i8; end", "@u = x; end", "@u = v; end", "@u = v + x; end", "u = @x + when(x, c); end", "@u = v + (x + when(x, c)); end", "automaton state B do @u = 1i8; end end")
}

// TestP801Order: nodes in order, in each its locals, then its items; kids from the left, each one whole; then the part.
func TestP801Order(t *testing.T) {
	const good = "node g(c: bool) returns (y: bool) var l: bool when c; let y = c; l = when(y, c); tel "
	const badItem = "node %(c: bool) returns (y: bool) var l: bool when c; let y = c; @l = y; tel "
	const badLocal = "node %(c: bool) returns (y: bool) var @l: bool when y and c; let y = c; l = true; tel "
	wrong := func(text, name string, mark bool) string {
		text = strings.Replace(text, "%", name, 1)
		if !mark {
			text = strings.Replace(text, "@", "", 1)
		}
		return text
	}
	holds(t, good+wrong(badItem, "h", true)+wrong(badLocal, "i", false))
	holds(t, good+wrong(badLocal, "h", true)+wrong(badItem, "i", false))
	holds(t, good+strings.ReplaceAll(good, "g(", "h(")+wrong(badLocal, "i", true))
	holds(t, "node f(b, c: bool) returns (y: bool) var l: bool when c; @m: bool when b and c; let y = l; l = b; m = true; tel")
	holdsAll(t, around,
		"y = (@x + u) + (x + v); u = x; v = 1i8;", "y = x + (@x + v); u = x; v = 1i8;", "y = (@u + v) + x; u = x; v = 1i8;", "y = add(@x + u, x + v) + u; u = x; v = 1i8;", "y = merge(c, @x + u, x + v); u = x; v = 1i8;", "y = merge(c, x, @x + u); u = x; v = 1i8;", "y = when(@x + u, e); u = x; v = 1i8;", "y = if b then (@x + u) else (x + v); u = x; v = 1i8;", "@y = u; u = x; v = 1i8;", "@u = x -> y; v = y; y = u;", "y = fold(add, @x + u, us) + u; u = x; v = 1i8;",
	)
	holds(t, ahead+"state A unless @e then A; do y = x; end tel")
	holds(t, "node f(x: i8; c: bool) returns (y, z: i8) var u: i8 when c; let u = 1i8; @z = u; automaton state A do y = u; end tel")
	holds(t, "node f(x: i8; c: bool) returns (y, z: i8) var u: i8 when c; let u = 1i8; automaton state A do @y = u; end z = u; tel")
	holds(t, "node f(x: i8; c: bool) returns (y, z: i8) var u: i8 when c; let u = 1i8; automaton state A do y = x; end @z = u; tel")
}

// TestP801Apart: the clocks of one node, or of one state, are not those of another one.
func TestP801Apart(t *testing.T) {
	holds(t, "node f(c: bool) returns (y: bool) var l: bool when c; let y = c; l = true; tel node g(l: bool) returns (y: bool) let y = l; tel node h(c: bool) returns (l, y: bool) let l = c; y = l; tel")
	holds(t, "node f(c: bool) returns (y: bool) let y = c; tel node g(c: bool) returns (z: bool) var y: bool when c; let y = true; @z = y; tel")
	holds(t, "node f(c: bool) returns (y, z: bool) let automaton state A var l: bool when c; do l = true; y = c; end automaton state A var l: bool; do l = c; z = l; end tel")
	holds(t, "node f(c: bool) returns (y, z: bool) let automaton state A var l: bool; do l = true; y = l; state B var l: bool when c; do l = true; @y = l; end z = c; tel")
	holds(t, "node f(c: bool) returns (y: bool) var u: bool when c; let automaton state A do y = c; end u = when(y, c); tel")
}

// TestP801Long: programs as great as may be.
func TestP801Long(t *testing.T) {
	const head = "node f(x: i8; b, c: bool) returns (y: i8) var u: i8 when c; let u = 1i8; "
	holds(t, head+"y = x"+strings.Repeat(" + x", 9900)+"; tel")
	holds(t, head+"y = @x"+strings.Repeat(" + x", 9900)+" + u; tel")
	holds(t, head+"y = x"+strings.Repeat(" -> x", 9900)+" -> @x -> u; tel")
	holds(t, head+"@y = u"+strings.Repeat(" fby u", 9900)+"; tel")
	deep, end := strings.Repeat("automaton state A do ", api.MaxDeep-1), strings.Repeat(" end", api.MaxDeep-1)
	holds(t, head+deep+"y = x;"+end+" tel")
	holds(t, head+deep+"@y = u;"+end+" tel")
	many, chained, given := "", "l0: bool; ", "l0 = true; "
	for i := 1; i <= api.MaxKids; i++ {
		many += map[bool]string{true: " when ", false: " and "}[i == 1] + map[bool]string{true: "not ", false: ""}[i%3 == 0] + "l" + strconv.Itoa(i-1)
		chained += "l" + strconv.Itoa(i) + ": bool" + many + "; "
		given += "l" + strconv.Itoa(i) + " = true; "
	}
	holds(t, "node f(x: i8) returns (y: i8) var "+chained+"let "+given+"y = x; tel")
	holds(t, "node f(x: i8) returns (y: i8) var "+strings.Replace(chained, "l16: bool when l0", "@l16: bool when not l0", 1)+"let "+given+"y = x; tel")
}
