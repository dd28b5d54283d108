package names

import (
	"slices"
	"strconv"
	"strings"
	"testing"

	"metronome/api"
	"metronome/gram"
)

func parsed(t *testing.T, text string) api.Program {
	t.Helper()
	p, at, e := gram.Parse(text)
	if e != api.OK {
		t.Fatalf("%s: error %d at %d", text, e, at)
	}
	return p
}

// holds asks the program of a text, in which an @ marks where it is wrong.
func holds(t *testing.T, want api.Errno, text string) {
	t.Helper()
	at := max(0, strings.IndexByte(text, '@'))
	text = strings.Replace(text, "@", "", 1)
	if got, e := Check(parsed(t, text)); got != at || e != want {
		t.Errorf("%s: error %d at %d, not %d at %d", text, e, got, want, at)
	}
}

// within is a program of a node that these items may call as g, and one of the
// input x, the output y and the local l, with these items.
func within(items string) string {
	return "node g(i: bool) returns (o: bool) let o = i; tel node f(x: bool) returns (y: bool) var l: bool; let " + items + " tel"
}

func TestP501Examples(t *testing.T) {
	holds(t, api.ErrName, "node f() returns (y: bool) let y = @z; tel")
	holds(t, api.ErrTwice, "node f() returns (y: bool) let y = true; @y = false; tel")
	holds(t, api.ErrState, "node f() returns (y, z: bool) let automaton state A do y = true; z = true; @state B do y = true; end tel")
}

func TestP501Right(t *testing.T) {
	for _, items := range []string{
		"y = x; l = x;", "(y, l) = x;", "(l, y) = x;", "y = l; l = y;", "y = y; l = l;",
		"y = g(x); l = reset(g(l), x);", "y = map(g, [x]); l = fold(g, x, [x]);", "y = merge(x, when(y, l), when(x, not l)); l = tick(2, 1);",
		"automaton state A do y = x; l = y; state B do l = x; y = x; until x then A; end",
		"automaton state A do (y, l) = x; state B do (l, y) = x; end",
		"automaton state A do y = x; end automaton state A do l = x; until x continue A; end",
		"l = x; automaton state A do automaton state A do y = x; state B do y = x; until true then A; end state C do y = x; end",
		"l = x; automaton state A var m: bool; do y = m; m = x; state B var m: bool; do y = m; m = x; end",
		"l = x; automaton state A var m: bool; do y = x; automaton state B var n: bool; do m = n; n = x; until m then B; state C do m = x; end until m then B; state B do y = x; end",
		"l = x; automaton state A var m, g, A: bool; do (m, y) = A; g = m; A = g(g); end",
		"l = x; automaton state A unless x then B; unless y continue A; do y = x; until x then A; until y then B; state B do y = x; end",
		"l = x; automaton state A do y = x; end",
	} {
		holds(t, api.OK, within(items))
	}
	holds(t, api.OK, "")
	holds(t, api.OK, "node x(x: bool) returns (y: bool) let y = x; tel node y(y: bool) returns (x: bool) let x = x(y); tel")
}

func TestP501NodesAndVariables(t *testing.T) {
	const right = "node f(x: bool) returns (y: bool) let y = x; tel "
	holds(t, api.ErrTwice, right+"@node f(x: bool) returns (y: bool) let y = x; tel")
	holds(t, api.ErrTwice, right+strings.Replace(right, "f", "g", 1)+"@"+right)
	holds(t, api.ErrTwice, "node f(x, @x: bool) returns (y: bool) let y = x; tel")
	holds(t, api.ErrTwice, "node f(x: bool; z: i8; @x: i8) returns (y: bool) let y = x; tel")
	holds(t, api.ErrTwice, "node f(x: bool) returns (@x: bool) let x = x; tel")
	holds(t, api.ErrTwice, "node f() returns (y, @y: bool) let y = true; tel")
	holds(t, api.ErrTwice, "node f(x: bool) returns (y: bool) var @x: bool; let y = x; tel")
	holds(t, api.ErrTwice, "node f() returns (y: bool) var @y: bool; let y = true; tel")
	holds(t, api.ErrTwice, "node f() returns (y: bool) var l: bool; @l: bool; let y = l; l = y; tel")
}

func TestP501Equations(t *testing.T) {
	for _, items := range []string{
		"y = x; @q = x; l = x;", "y = x; @(l, q) = x;", "y = x; l = x; @x = x;", "y = x; l = x; @g = x;", "y = x; @f = x; l = x;",
		"y = @q; l = x;", "y = x; l = @q;", "y = x + y * @q; l = x;", "y = @f(x); l = x;", "y = @h(x); l = x;", "y = @x(x); l = x;", "y = g(@g); l = x;",
		"y = @when(x, q); l = x;", "y = @when(p, not q); l = x;", "y = when(@q, x); l = x;", "y = @merge(q, p, r); l = x;", "y = merge(x, @q, p); l = x;", "y = merge(x, l, @q); l = x;",
		"y = @reset(h(q), p); l = x;", "y = reset(g(@q), p); l = x;", "y = reset(g(x), @p); l = x;", "y = @map(h, q); l = x;", "y = map(g, @q, p); l = x;", "y = @fold(h, q, p); l = x;", "y = fold(g, x, @p); l = x;",
		"y = if x then l else @q; l = x;", "y = [x, [l], -@q]; l = p;", "y = rep(@q, 2); l = x;", "y = @q[1]; l = x;", "y = cast(i8, @q); l = x;", "y = x -> pre @q; l = x;", "y = not @q fby p; l = x;", "y = g(x) + @h(x) + q; l = x;",
	} {
		holds(t, api.ErrName, within(items))
	}
	for _, items := range []string{
		"y = x; l = x; @y = x;", "y = x; l = x; @l = q;", "@(y, l, y) = x;", "y = x; @(l, y) = x;", "y = x; @(l, y, q) = x;", "@(y, y) = q;",
	} {
		holds(t, api.ErrTwice, within(items))
	}
	holds(t, api.ErrName, within("y = x; @(l, q, y) = x;"))
	holds(t, api.ErrMissing, "node f(x: bool) returns (y, @z: bool) var l: bool; let y = x; tel")
	holds(t, api.ErrMissing, "node f(x: bool) returns (y: bool) var k, @l: bool; m: bool; let y = x; k = x; tel")
	holds(t, api.ErrMissing, "node f(x: bool) returns (y: bool) var @l: bool; let automaton state A do y = x; end tel")
	holds(t, api.ErrMissing, "node f(x: bool) returns (@y: bool) let automaton state A var l: bool; do l = x; end tel")
}

func TestP501Automata(t *testing.T) {
	for what, all := range map[api.Errno][]string{
		api.ErrTwice: {
			"l = x; automaton state A do y = q; state B do y = q; @state A do y = x; end",
			"l = x; automaton state A do y = x; state B var @x: bool; do y = q; end",
			"l = x; automaton state A var m, @y: bool; do y = q; end", "l = x; automaton state A unless q then A; var @l: bool; do y = x; end",
			"l = x; automaton state A var m, @m: bool; do y = x; m = x; end",
			"l = x; automaton state A var m: bool; do m = x; automaton state B var @m: bool; do y = x; end end",
			"l = x; automaton state A do y = x; @y = x; end", "l = x; automaton state A var m: bool; do y = x; m = x; @m = x; end",
			"l = x; y = x; @automaton state A do y = x; end", "automaton state A do y = x; l = x; end @automaton state A do y = x; end", "automaton state A do y = x; end @(l, y) = x;",
			"l = x; automaton state A do y = x; @automaton state B do y = x; end end", "l = x; y = x; @automaton state A do automaton state B do y = x; end end",
		},
		api.ErrName: {
			"l = x; automaton state A unless @x then Q; do y = q; end", "l = x; automaton state A do y = x; until x then A; until @q then Q; end", "l = x; automaton state A do automaton state B do y = x; until @x then A; end end",
			"l = x; automaton state A do automaton state B do y = x; end until @x then B; end", "l = x; automaton state A unless x and @q then A; do y = x; end", "l = x; automaton state A do y = x; until x and @q then A; end", "l = x; automaton state A unless x = @h(q) then A; do y = x; end",
			"l = x; automaton state A unless x and @m then A; var m: bool; do y = x; m = x; end", "l = x; automaton state A unless pre @q then A; do y = x; end",
			"l = x; automaton state A do y = x; state B unless @y(x) then A; do y = x; end", "l = x; automaton state A do y = @q; state B do y = x; end", "l = x; automaton state A do y = x; state B do @x = x; end",
			"l = x; automaton state A var m: bool; do y = x; m = x; state B do y = @m; end", "l = x; automaton state A var m: bool; do y = x; m = x; state B do @m = x; end", "l = x; automaton state A var m: bool; do y = x; m = x; state B unless @m then A; do y = x; end",
			"automaton state A var m: bool; do y = x; m = x; end l = @m;", "l = x; automaton state A do automaton state B var m: bool; do m = x; end y = @m; end",
		},
		api.ErrCond: {
			"l = x; automaton state A unless @pre x then A; do y = q; end", "l = x; automaton state A unless x then A; unless @x and (x fby y) then A; do y = q; end", "l = x; automaton state A do y = x; until @not g(x) then A; until q then A; end",
			"l = x; automaton state A do y = x; until @x or tick(2, 0) then A; end", "l = x; automaton state A do y = x; until @x -> y then A; state B do y = q; end", "l = x; automaton state A do y = x; until @reset(g(x), x) then A; end", "l = x; automaton state A do y = x; until @map(g, x)[0] then A; end", "l = x; automaton state A do y = x; until @fold(g, x, x) then A; end",
		},
		api.ErrMissing: {
			"l = x; automaton state A var @m: bool; do y = x; until q then A; end", "l = x; automaton state A var m, @n, o: bool; do y = x; m = y; end", "l = x; automaton state A var m: bool; do y = x; m = x; state B var @m: bool; do y = x; end",
			"l = x; automaton state A var @m: bool; do y = x; automaton state B var n: bool; do n = x; end end", "l = x; automaton state A do y = x; state B var @m: bool; do l = x; end",
		},
		api.ErrState: {
			"automaton state A do y = x; l = x; @state B do y = x; end", "automaton state A do y = x; @state B do y = x; l = x; end", "automaton state A do y = x; @state B do l = x; end", "automaton state A do y = x; state B do y = x; @state C do (y, l) = x; state D do l = x; end",
			"automaton state A var m: bool; do (y, m) = x; @state B do (y, l) = x; end", "automaton state A do automaton state B do y = x; @state C do l = x; end end", "y = x; automaton state A do automaton state B do y = x; end @state C do l = x; end",
			"l = x; automaton state A var m: bool; do automaton state B do y = x; @state C do y = x; m = x; end state D do q = x; end",
		},
	} {
		for _, items := range all {
			holds(t, what, within(items))
		}
	}
}

// TestP501Clocks: locals' clocks come behind all else of a node.
func TestP501Clocks(t *testing.T) {
	const head, state = "node f(x: bool) returns (y: bool) var ", "node f(x: bool) returns (y: bool) var l: bool; let l = x; automaton state A var "
	for _, s := range []string{
		head + "@l: bool when q; let y = x; l = x; tel", head + "@l: bool when l; let y = x; l = x; tel", head + "k: bool; @l, m: bool when x and not q; let (y, k, l, m) = x; tel", head + "@k, l: bool when x and k; let (y, k, l) = x; tel",
		head + "@l: bool when m; let y = x; l = x; automaton state A var m: bool; do m = x; end tel",
		state + "@m: bool when q; do y = x; m = x; end tel", state + "@m: bool when not m; do y = x; m = x; end tel", state + "m: bool; do y = m; m = x; state B var @n: bool when m; do y = x; n = x; end tel",
		state + "@m: bool when n; do m = x; automaton state B var n: bool; do y = x; n = x; end end tel", state + "m: bool; do m = x; automaton state B var @n: bool when n; do y = x; n = x; end end tel",
		state + "m: bool when x; do m = x; automaton state B var @n: bool when q; do y = x; n = x; end state C var n: bool when q; do y = x; n = x; end tel",
	} {
		holds(t, api.ErrName, s)
	}
	for _, s := range []string{
		head + "l: bool when x and not y; let y = x; l = x; tel", head + "l: bool when m; m: bool when l; let (y, l, m) = x; tel",
		state + "m: bool when l and x and y; do y = x; m = x; end tel", state + "m: bool when n; n: bool; do y = x; m = x; n = x; end tel",
		state + "m: bool; do m = x; automaton state B var n: bool when m and k; k: bool when l; do y = x; n = x; k = x; end end tel",
	} {
		holds(t, api.OK, s)
	}
	holds(t, api.ErrMissing, head+"l: bool when q; @m: bool; let y = x; l = x; tel")
	holds(t, api.ErrName, head+"l: bool when q; let y = @q; l = x; tel")
	holds(t, api.ErrName, head+"@l: bool when q; let y = x; l = x; tel node f() returns (y: bool) let y = q; tel")
	holds(t, api.ErrTwice, head+"l: bool when x; let y = x; l = x; tel @node f() returns (y: bool) let y = q; tel")
}

// TestP501Count: what Parse can't answer.
func TestP501Count(t *testing.T) {
	for _, form := range []int{api.EReset, api.EArr, api.EMap, api.ECall} {
		e := api.Exp{Form: api.EUn, Sub: api.OpNot, At: 3, Kids: []api.Exp{{Form: form, Name: "g", At: 4}}}
		p := api.Program{Nodes: []api.Node{{Name: "g"}, {Outs: []api.Var{{Name: "y"}}, Items: []api.Item{{Names: []string{"y"}, E: e}}}}}
		at, what := 4, api.ErrCount
		if form == api.ECall {
			at, what = 0, api.OK
		}
		if gotAt, got := Check(p); gotAt != at || got != what {
			t.Errorf("form %d: error %d at %d", form, got, gotAt)
		}
	}
}

// TestP501Long: programs as great as may be.
func TestP501Long(t *testing.T) {
	var s strings.Builder
	for n := range api.MaxNodes {
		s.WriteString("node n" + strconv.Itoa(n) + "(x: bool) returns (y: bool) let y = ")
		for k := range n {
			s.WriteString("n" + strconv.Itoa(k) + "(x) -> ")
		}
		s.WriteString("x; tel\n")
	}
	holds(t, api.OK, s.String())
	holds(t, api.OK, within("l = x; y = x"+strings.Repeat(" + x", 9900)+";"))
	holds(t, api.ErrName, within("l = x; y = x"+strings.Repeat(" -> x", 9900)+" -> @q;"))
	holds(t, api.ErrName, within("l = x; y = @q"+strings.Repeat("[1]", 6000)+";"))
	deep := strings.Repeat("automaton state A do ", api.MaxDeep-1)
	end := strings.Repeat(" end", api.MaxDeep-1)
	holds(t, api.OK, within("l = x; "+deep+"y = x;"+end))
	holds(t, api.ErrName, within("l = x; "+deep+"y = @q;"+end))
}

func expOf(t *testing.T, text string) api.Exp {
	t.Helper()
	return parsed(t, "node f() returns (y: bool) let y = "+text+"; tel").Nodes[0].Items[0].E
}

func TestP502(t *testing.T) {
	for text, want := range map[string]struct {
		uses, calls string
		memory      bool
	}{
		"1i8": {}, "true": {}, "a": {"a", "", false}, "not a": {"a", "", false}, "-a": {"a", "", false}, "a + b": {"a b", "", false}, "a and a": {"a a", "", false},
		"if c then b else a": {"c b a", "", false}, "pre a": {"a", "", true}, "a -> b": {"a b", "", true}, "a fby b": {"a b", "", true},
		"when(a, c)": {"c a", "", false}, "when(a, not c)": {"c a", "", false}, "merge(c, b, a)": {"c b a", "", false}, "cast(i8, a)": {"a", "", false}, "tick(2, 1)": {"", "", true},
		"f()": {"", "f", true}, "f(b, a)": {"b a", "f", true}, "reset(f(b, a), c)": {"b a c", "f", true}, "reset(f(), c)": {"c", "f", true}, "[b, a]": {"b a", "", false}, "a[1]": {"a", "", false}, "rep(a, 2)": {"a", "", false}, "map(f, b, a)": {"b a", "f", true}, "fold(f, b, a)": {"b a", "f", true},
		"f(g(a), f(b)) + g(c)": {"a b c", "f g f g", true}, "map(f, [reset(g(a), fold(h, b, c))])": {"a b c", "f g h", true}, "when(merge(a, when(b, c), d), e)": {"e a c b d", "", false}, "a + (b + [if c then d else pre e])": {"a b c d e", "", true},
	} {
		e := expOf(t, text)
		if uses, calls := Uses(e), Calls(e); !slices.Equal(uses, strings.Fields(want.uses)) || !slices.Equal(calls, strings.Fields(want.calls)) || Memory(e) != want.memory {
			t.Errorf("%s: uses %q, calls %q, memory %v", text, uses, calls, Memory(e))
		}
	}
}
