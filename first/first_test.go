package first

import (
	"strings"
	"testing"

	"metronome/api"
	"metronome/clocks"
	"metronome/gram"
	"metronome/names"
	asked "metronome/types"
)

// taken is the program of a text that the checks ahead of this one take.
func taken(t *testing.T, text string) api.Program {
	t.Helper()
	p, at, e := gram.Parse(text)
	if e != api.OK {
		t.Fatalf("%s: error %d at %d", text, e, at)
	}
	if at, e := checkedAhead(p); e != api.OK {
		t.Fatalf("%s: ahead: error %d at %d", text, e, at)
	}
	return p
}

func checkedAhead(p api.Program) (int, api.Errno) {
	for _, check := range []func(api.Program) (int, api.Errno){names.Check, asked.Check, clocks.Check} {
		if at, e := check(p); e != api.OK {
			return at, e
		}
	}
	return 0, api.OK
}

// marked is a text without its mark (an @), where that stood, and what must be wrong there; without one nothing is.
func marked(text string) (string, int, api.Errno) {
	at := strings.IndexByte(text, '@')
	if at < 0 {
		return text, 0, api.OK
	}
	return strings.Replace(text, "@", "", 1), at, api.ErrFirst
}

func holds(t *testing.T, text string) {
	t.Helper()
	text, at, want := marked(text)
	if got, e := Check(taken(t, text)); got != at || e != want {
		t.Errorf("%s: error %d at %d, not %d at %d", text, e, got, want, at)
	}
}

func holdsAll(t *testing.T, ahead, behind string, texts ...string) {
	t.Helper()
	for _, text := range texts {
		holds(t, ahead+text+behind)
	}
}

// Nodes that expressions may call.
const callable = `node neg(i: i8) returns (o: i8) let o = -i; tel
node add(i, j: i8) returns (o: i8) let o = i + j; tel
node sum(i: i8^2) returns (o: i8) let o = i[0] + i[1]; tel
node two(i: i8) returns (o, p: i8) let o = i; p = i; tel
`

// A node that defines y by the expression that is put behind; u and e are on c.
const around = callable + `node f(x: i8; xs: i8^2; b, c: bool) returns (y: i8) var u: i8 when c; e: bool when c; let u = 1i8; e = true; y = `

// A node that defines u, on c, by the expression that is put behind.
const when = callable + "node f(x: i8; c: bool) returns (y: i8) var u: i8 when c; let y = x; u = "

func TestP902Examples(t *testing.T) {
	holdsAll(t, around, "; tel", "@pre x", "0i8 -> pre x", "0i8 -> pre (@pre x)", "neg(@pre x)")
	holds(t, "")
	holds(t, "node count() returns (n: u8) let n = 0u8 fby (n + 1u8); tel node f(r: bool) returns (y: u8) let y = reset(count(), r); tel")
	holds(t, "node f() returns (y: i8) let automaton state A do y = 0i8 fby (y + 1i8); until y = 2i8 then B; state B do y = -1i8; until true continue A; end tel")
	holds(t, "node f(x: i8) returns (y: i8) let y = x; tel node g(x: i8) returns (y: i8) var fast: bool; z: i8 when fast; let fast = tick(2, 0); z = f(when(x, fast)); y = merge(fast, z, when(0i8 -> pre y, not fast)); tel")
}

// TestP901Late: of each form, what is late where an equation has it.
func TestP901Late(t *testing.T) {
	holdsAll(t, around, "; tel",
		"1i8", "x", "cast(i8, tick(2, 0))", "y", // a variable is not late, whatever its equation is
		"-x", "@-pre x", "@not pre x", "-(0i8 -> pre x)",
		"x + x", "@pre x + x", "@x + pre x", "@pre x + pre x", "(0i8 -> pre x) + x", "(@0i8 -> pre x) + pre x",
		"if b then x else x", "@if pre b then x else x", "@if b then pre x else x", "@if b then x else pre x", "if true -> pre b then 0i8 -> pre x else 0i8 fby x",
		"@pre x", "@pre 1i8", "@pre (0i8 -> pre x)", "@pre (0i8 fby x)",
		"x -> x", "x -> pre x", "@pre x -> x", "@pre x -> pre x", "(x -> pre x) -> x", "(@pre x -> x) -> x", "x -> (pre x -> x)", "@x + (pre x -> 1i8)",
		"x fby x", "@pre x fby x", "(x -> pre x) fby x", "(x fby x) fby x", "(@pre x fby x) fby x", "(@pre x -> x) fby x", "x -> pre x fby x",
		"merge(c, when(x, c), 1i8)", "merge(c, 0i8 -> pre u, 0i8 fby when(x, not c))",
		"@cast(i8, pre b)", "cast(i8, true -> pre b)",
		"neg(x)", "neg(0i8 -> pre x)", "neg(0i8 fby x)", "reset(neg(x), b)", "reset(neg(x -> pre x), true fby b)",
		"[x, 1i8][0]", "@[pre x, x][1]", "@[x, pre x][0]", "@[x, x, pre x][0]", "[x -> pre x][0]",
		"xs[1]", "(@pre xs)[1]", "(xs -> pre xs)[1]", "(@pre xs -> xs)[0]", "@rep(pre x, 2)[0]", "rep(x -> pre x, 2)[0]",
		"map(neg, xs)[0]", "map(neg, xs -> pre xs)[0]", "fold(add, x, xs)", "fold(add, x -> pre x, xs fby xs)",
	)
	holdsAll(t, when, "; tel", "when(x, c)", "@when(pre x, c)", "@pre when(x, c)", "when(0i8 -> pre x, c)", "0i8 -> pre when(x, c)", "0i8 -> when(pre x, c)", "@when(pre x -> x, c)")
	holds(t, "node f(x: i8; c: bool) returns (y: i8) var u: i8 when not c; let y = x; u = @when(pre x, not c); tel")
}

// TestP902Within: what must not be late within an expression, though the whole isn't.
func TestP902Within(t *testing.T) {
	holdsAll(t, around, "; tel",
		"0i8 -> pre @pre x", "0i8 -> pre (@x + pre x)", "0i8 -> pre (x -> pre x)", "0i8 -> pre (@pre x -> x)", "0i8 -> pre pre @pre x", "0i8 -> pre (0i8 -> pre @pre x)", "0i8 -> pre (x fby x)", "0i8 -> pre (@pre x fby x)", "0i8 -> pre neg(x)",
		"0i8 fby @pre x", "0i8 fby (x -> pre x)", "0i8 fby (@x + pre x)", "0i8 -> (pre x fby x)", "0i8 -> (pre x fby @pre x)", "0i8 fby 0i8 fby x", "0i8 fby (@pre x fby x)", "0i8 fby 0i8 fby @pre x", "0i8 fby (@pre x -> x)", "0i8 fby (x -> neg(@pre x))",
		"neg(@pre x)", "0i8 -> neg(@pre x)", "0i8 -> neg(@-pre x)", "0i8 -> neg(x -> pre x)", "0i8 -> add(@pre x, x)", "0i8 -> add(x, @pre x)", "0i8 -> neg(@pre x -> x)", "0i8 -> sum(@pre xs)", "0i8 -> sum(@[x, pre x])", "0i8 -> neg(neg(@pre x))",
		"reset(neg(@pre x), b)", "reset(neg(x), @pre b)", "0i8 -> reset(neg(@pre x), b)", "0i8 -> reset(neg(x), @pre b)", "0i8 -> reset(neg(x), @not pre b)", "0i8 -> reset(neg(x), b -> pre b)", "0i8 -> reset(add(x, @pre x), pre b)", "0i8 -> reset(add(@pre x, x), pre b)",
		"map(neg, @pre xs)[0]", "0i8 -> map(neg, @pre xs)[0]", "0i8 -> map(neg, @[x, pre x])[0]", "0i8 -> map(add, xs, @pre xs)[0]", "0i8 -> map(add, @pre xs, xs)[0]", "0i8 -> map(neg, @rep(pre x, 2))[0]", "0i8 -> map(neg, xs -> pre xs)[0]",
		"fold(add, @pre x, xs)", "0i8 -> fold(add, @pre x, xs)", "0i8 -> fold(add, x, @pre xs)", "0i8 -> fold(add, x -> pre x, xs -> pre xs)", "0i8 -> fold(add, x, map(neg, @pre xs))",
		"merge(c, @pre u, 1i8)", "0i8 -> merge(c, @pre u, 1i8)", "0i8 -> merge(c, 1i8, @pre when(x, not c))", "0i8 -> merge(c, 1i8, @when(pre x, not c))", "0i8 -> merge(c, @when(pre x, c), 1i8)", "0i8 -> merge(c, merge(e, @pre when(u, e), 1i8), 1i8)", "0i8 -> merge(c, 0i8 -> pre u, 1i8)",
		"0i8 -> -pre x", "0i8 -> (pre x + pre x)", "0i8 -> if pre b then pre x else pre x", "0i8 -> cast(i8, pre b)", "0i8 -> [pre x, pre x][0]", "0i8 -> (pre xs)[0]", "0i8 -> rep(pre x, 2)[0]", "0i8 -> (pre x -> pre x)", // these may be late within
	)
	holdsAll(t, when, "; tel", "0i8 -> when(neg(@pre x), c)", "0i8 -> pre @when(pre x, c)", "0i8 -> pre when(x -> pre x, c)", "0i8 fby @when(pre x, c)")
}

// TestP902Kids: kids ahead of what they are kids of, from the left, each one whole; an expression behind what is within it.
func TestP902Kids(t *testing.T) {
	holdsAll(t, around, "; tel",
		"pre @pre x", "pre pre @pre x", "pre x + pre @pre x", "pre @pre x + pre x", "pre x -> neg(@pre x)", "pre x fby @pre x", "pre @pre x fby pre x", "pre x -> pre @pre x",
		"add(@pre x, pre x)", "add(pre x, pre @pre x)", "add(pre @pre x, pre x)", "add(neg(@pre x), neg(pre x))", "add(x, neg(@pre x))", "add(pre x, neg(@pre x))", "add(neg(@pre x), pre x)", "neg(neg(@pre x))", "add(-pre x, 0i8 fby @pre x)", "add(0i8 fby @pre x, pre x)",
		"reset(neg(@pre x), pre b)", "reset(neg(pre x), pre @pre b)", "reset(neg(neg(@pre x)), pre b)",
		"merge(c, @pre u, pre when(x, not c))", "merge(c, pre u, pre @pre when(x, not c))", "merge(c, neg(@pre u), pre when(x, not c))",
		"fold(add, @pre x, pre xs)", "fold(add, pre x, pre @pre xs)", "fold(add, pre x, map(neg, @pre xs))", "map(add, @pre xs, pre xs)[0]", "map(add, pre xs, pre @pre xs)[1]", "map(neg, [pre x, neg(@pre x)])[1]",
		"if pre b then neg(@pre x) else pre pre x", "if pre @pre b then neg(pre x) else x", "[pre x, neg(@pre x), neg(pre x)][0]", "0i8 -> (pre @pre x + neg(pre x))", "0i8 -> pre (pre x + pre @pre x)", "0i8 -> pre neg(@pre x)", "neg(@pre x) -> neg(pre x)", "neg(@pre x) fby neg(pre x)", "cast(i8, pre @pre b)", "rep(neg(@pre x), 2)[1]",
	)
}

// TestP902Equations: nodes in order, their items in order; of what an equation defines, and of clocks, nothing is asked.
func TestP902Equations(t *testing.T) {
	const head = callable + "node f(x: i8; c: bool) returns (y, z: i8) var u: i8 when c; let "
	holdsAll(t, head, " tel",
		"y = x; z = x; u = 1i8;", "y = @pre x; z = pre x; u = pre u;", "y = x; z = @pre x; u = pre u;", "y = x; z = x; u = @pre u;", "z = @pre x; y = pre x; u = pre u;", "u = @pre u; z = pre x; y = pre x;", "u = 0i8 -> pre u; z = 0i8 -> pre z; y = 0i8 -> pre y;", "u = 0i8 -> pre u; z = z -> pre z; y = @pre y -> y;",
		"(y, z) = two(x); u = 1i8;", "(y, z) = two(@pre x); u = 1i8;", "(y, z) = two(0i8 -> pre x); u = 1i8;", "u = 1i8; (z, y) = reset(two(x), @pre c);",
		"y = neg(@pre x); z = pre x; u = 1i8;", "y = x; z = 0i8 -> pre @pre x; u = neg(pre u);",
	)
	const good = "node g(c: bool) returns (y: bool) let y = c -> pre y; tel "
	const bad = "node h(c: bool) returns (y: bool) let y = @pre c; tel "
	plain := strings.Replace(strings.Replace(bad, "@", "", 1), "node h", "node i", 1)
	holds(t, good+bad)
	holds(t, bad+good)
	holds(t, bad+plain)
	holds(t, good+strings.Replace(good, "node g", "node j", 1)+bad+plain)
	// what a node does inside is asked in that node, not where it is called
	holds(t, "node h(c: bool) returns (y: bool) let y = @pre c; tel node k(c: bool) returns (y: bool) let y = h(c); tel")
}

// A node whose automaton is put behind.
const ahead = "node neg(i: i8) returns (o: i8) let o = -i; tel node f(x: i8; c: bool) returns (y, z: i8) var u: i8; let u = x; "

func TestP902States(t *testing.T) {
	holdsAll(t, ahead, " tel",
		"z = x; automaton state A do y = x; state B do y = @pre x; end", "z = x; automaton state A do y = @pre x; state B do y = pre x; end", "z = x; automaton state A do y = 0i8 -> pre x; state B do y = 0i8 fby x; until c then A; end", "z = x; automaton state A do y = neg(@pre x); state B do y = neg(pre x); end",
		"z = x; automaton state A var l: i8; do l = @pre x; y = pre l; end", "z = x; automaton state A var l: i8 when c; do y = x; l = @pre l; end", "z = x; automaton state A var l: i8 when c; do y = 0i8 -> pre x; l = 0i8 -> pre l; end", "z = x; automaton state A var l: i8; do y = @pre x; l = pre x; end",
		"z = @pre x; automaton state A do y = pre x; end", "automaton state A do y = @pre x; end z = pre x;", "automaton state A do y = x; end z = @pre x;", "automaton state A do y = @pre x; z = pre x; end", "automaton state A do y = x; z = @pre x; state B do y = pre x; z = x; end", "automaton state A do y = x; state B do y = @pre x; end automaton state C do z = pre x; end", "automaton state A do y = x; end automaton state C do z = @pre x; end",
		"z = x; automaton state A do automaton state B do y = @pre x; end state C do y = pre x; end", "z = x; automaton state A do automaton state B do y = x; state C do y = @pre x; end state D do y = pre x; end", "z = x; automaton state A do automaton state B do y = x; end state C do y = @pre x; end", "automaton state A do z = @pre x; automaton state B do y = pre x; end end", "automaton state A do automaton state B do y = @pre x; end z = pre x; end", "automaton state A do automaton state B do y = x; end z = @pre x; end", "automaton state A do automaton state B do y = 0i8 -> pre y; until c then B; end z = 0i8 fby z; until c continue A; end",
	)
}

// TestP902Conditions: names.Check takes no condition that is late; this check tells it, too, where it stands.
func TestP902Conditions(t *testing.T) {
	for _, states := range []string{
		"state A unless @pre c then A; do y = x; z = x; end", "state A unless c then A; unless @not pre c then A; do y = pre x; z = x; end", "state A do y = x; z = x; until @pre c then A; end", "state A do y = x; z = x; until c then A; until @c and pre c then A; end",
		"state A unless true -> pre c then A; do y = x; z = x; until true fby c continue A; end", "state A unless c -> (c and pre @pre c) then A; do y = x; z = x; end", "state A do y = x; z = x; until neg(@pre x) = x then A; end", "state A do y = x; z = x; until pre @pre c then A; end",
		"state A unless @pre c then A; do y = pre x; z = x; until pre c then A; end", "state A unless c then A; do y = @pre x; z = x; until pre c then A; end", "state A unless c then A; do y = x; z = x; until @pre c then A; until pre c then A; end", "state A unless @pre c then A; unless pre c then A; do y = x; z = x; end",
		"state A do y = x; z = x; until @pre c then A; state B unless pre c then A; do y = x; z = x; end", "state A do y = x; z = x; state B unless @pre c then A; do y = pre x; z = x; end", "state A do y = x; z = x; state B do y = x; z = x; until @pre c then A; end",
		"state A do y = x; automaton state B unless @pre c then B; do z = pre x; end until pre c then A; end", "state A do y = x; automaton state B do z = x; until @pre c then B; end until pre c then A; end", "state A do y = x; automaton state B do z = x; end until @pre c then A; end",
	} {
		text, at, want := marked(ahead + "automaton " + states + " tel")
		p, _, e := gram.Parse(text)
		if e != api.OK {
			t.Fatalf("%s: error %d", text, e)
		}
		if got, e := Check(p); got != at || e != want {
			t.Errorf("%s: error %d at %d, not %d at %d", text, e, got, want, at)
		}
	}
}

// TestP902Places: the place is that of the expression, not of what it stands in; also where it is 0.
func TestP902Places(t *testing.T) {
	late := func(at int) api.Exp {
		return api.Exp{Form: api.EPre, Kids: []api.Exp{{Form: api.EVar, Name: "x", At: 90}}, At: at}
	}
	for _, at := range []int{0, 7, -3} {
		for _, i := range []api.Item{
			{Names: []string{"y"}, E: late(at), At: 91},
			{States: []api.State{{Name: "A", Unless: []api.Trans{{Cond: late(at), To: "A", At: 92}}, At: 93}}, At: 91},
			{States: []api.State{{Name: "A", Until: []api.Trans{{Cond: late(at), To: "A", At: 92}}, At: 93}}, At: 91},
			{States: []api.State{{Name: "A", Items: []api.Item{{Names: []string{"y"}, E: late(at), At: 92}}, At: 93}}, At: 91},
			{Names: []string{"y"}, E: api.Exp{Form: api.EUn, Kids: []api.Exp{late(94)}, At: at}, At: 91},
			{Names: []string{"y"}, E: api.Exp{Form: api.EPre, Kids: []api.Exp{late(at)}, At: 94}, At: 91},
			{Names: []string{"y"}, E: api.Exp{Form: api.EFby, Kids: []api.Exp{{Form: api.ELit}, late(at)}, At: 94}, At: 91},
			{Names: []string{"y"}, E: api.Exp{Form: api.ECall, Kids: []api.Exp{late(at)}, At: 94}, At: 91},
		} {
			behind := api.Item{Names: []string{"z"}, E: late(95), At: 96}
			if got, e := Check(api.Program{Nodes: []api.Node{{Items: []api.Item{i, behind}, At: 97}}}); got != at || e != api.ErrFirst {
				t.Errorf("%+v: error %d at %d", i, e, got)
			}
		}
	}
}

// TestP902Long: programs as great as may be.
func TestP902Long(t *testing.T) {
	holdsAll(t, around, "; tel",
		"x"+strings.Repeat(" + x", 9000), "@x"+strings.Repeat(" + x", 9000)+" + pre x", "x"+strings.Repeat(" -> pre x", 6000), "@pre x"+strings.Repeat(" -> pre x", 6000), "x"+strings.Repeat(" fby x", 9000), "x"+strings.Repeat(" fby x", 9000)+" fby @pre x", "@pre x"+strings.Repeat(" fby x", 9000), "neg(@pre x)"+strings.Repeat(" + pre x", 6000),
		"0i8 -> "+strings.Repeat("pre ", 37)+"@pre x", strings.Repeat("neg(", 38)+"x"+strings.Repeat(")", 38), strings.Repeat("neg(", 37)+"@pre x"+strings.Repeat(")", 37),
	)
	deep, end := strings.Repeat("automaton state A do ", api.MaxDeep-2), strings.Repeat(" end", api.MaxDeep-2)
	holdsAll(t, ahead+"z = x; "+deep, end+" tel", "y = 0i8 -> pre x;", "y = @pre x;")
}
