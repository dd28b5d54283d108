package show

import (
	"math/rand"
	"reflect"
	"strings"
	"testing"

	"metronome/api"
	"metronome/gram"
)

func name(n string) api.Exp { return api.Exp{Form: api.EVar, Name: n} }

func lit(kind, n int) api.Exp { return api.Exp{Form: api.ELit, T: api.Type{Kind: kind}, N: n} }

func of(form, sub int, kids ...api.Exp) api.Exp { return api.Exp{Form: form, Sub: sub, Kids: kids} }

func call(form int, f string, kids ...api.Exp) api.Exp {
	return api.Exp{Form: form, Name: f, Kids: kids}
}

func sized(form, n int, kid api.Exp) api.Exp {
	return api.Exp{Form: form, N: n, Kids: []api.Exp{kid}}
}

func wantExp(t *testing.T, e api.Exp, want string) {
	t.Helper()
	if got := Exp(e); got != want {
		t.Errorf("%q, not %q", got, want)
	}
}

func TestP401Literals(t *testing.T) {
	wantExp(t, lit(api.Bool, 1), "true")
	wantExp(t, lit(api.Bool, 0), "false")
	wantExp(t, lit(api.I8, 0), "0i8")
	wantExp(t, lit(api.I8, 127), "127i8")
	wantExp(t, lit(api.I8, -1), "(-1i8)")
	wantExp(t, lit(api.I8, -128), "(-128i8)")
	wantExp(t, lit(api.I16, -32768), "(-32768i16)")
	wantExp(t, lit(api.I32, 5), "5i32")
	wantExp(t, lit(api.I64, 1<<63-1), "9223372036854775807i64")
	wantExp(t, lit(api.I64, -1<<63), "(-9223372036854775808i64)")
	wantExp(t, lit(api.U8, 255), "255u8")
	wantExp(t, lit(api.U16, 65535), "65535u16")
	wantExp(t, lit(api.U32, 1<<32-1), "4294967295u32")
	wantExp(t, lit(api.U64, 7), "7u64")
	wantExp(t, lit(api.U64, -1), "18446744073709551615u64")
	wantExp(t, lit(api.U64, -1<<63), "9223372036854775808u64")
}

func TestP401Operations(t *testing.T) {
	a, b := name("a"), name("b")
	for i, s := range strings.Fields("+ - * / mod & | ^ => << >> = <> < <= > >=") {
		wantExp(t, of(api.EBin, api.OpAdd+i, a, b), "(a "+s+" b)")
	}
	wantExp(t, of(api.EBin, api.OpSub, lit(api.I8, 3), lit(api.I8, -3)), "(3i8 - (-3i8))")
	wantExp(t, of(api.EUn, api.OpNot, a), "(not a)")
	wantExp(t, of(api.EUn, api.OpNeg, a), "(- a)")
	wantExp(t, of(api.EUn, api.OpNeg, lit(api.I8, 3)), "(- (3i8))")
	wantExp(t, of(api.EUn, api.OpNeg, lit(api.I8, -3)), "(- (-3i8))")
	wantExp(t, of(api.EUn, api.OpNeg, lit(api.U64, -1)), "(- (18446744073709551615u64))")
	wantExp(t, of(api.EUn, api.OpNeg, lit(api.Bool, 1)), "(- true)")
	wantExp(t, of(api.EUn, api.OpNot, lit(api.U8, 3)), "(not (3u8))")
	wantExp(t, of(api.EUn, api.OpNot, lit(api.Bool, 0)), "(not false)")
	wantExp(t, of(api.EUn, api.OpNot, of(api.EUn, api.OpNeg, a)), "(not (- a))")
	wantExp(t, of(api.EPre, 0, lit(api.I8, 3)), "(pre 3i8)")
	wantExp(t, of(api.EPre, 0, lit(api.I8, -3)), "(pre (-3i8))")
}

func TestP401Forms(t *testing.T) {
	a, b, c := name("a"), name("b"), name("c_9")
	wantExp(t, c, "c_9")
	wantExp(t, of(api.EIf, 0, a, b, c), "(if a then b else c_9)")
	wantExp(t, of(api.EArrow, 0, a, b), "(a -> b)")
	wantExp(t, of(api.EFby, 0, a, b), "(a fby b)")
	wantExp(t, api.Exp{Form: api.EWhen, Name: "c", N: 1, Kids: []api.Exp{a}}, "when(a, c)")
	wantExp(t, api.Exp{Form: api.EWhen, Name: "c", Kids: []api.Exp{a}}, "when(a, not c)")
	wantExp(t, call(api.EMerge, "c", a, b), "merge(c, a, b)")
	for kind, word := range strings.Fields("bool i8 i16 i32 i64 u8 u16 u32 u64") {
		wantExp(t, api.Exp{Form: api.ECast, T: api.Type{Kind: api.Bool + kind}, Kids: []api.Exp{a}}, "cast("+word+", a)")
	}
	wantExp(t, api.Exp{Form: api.ETick, N: 3, M: 1}, "tick(3, 1)")
	wantExp(t, api.Exp{Form: api.ETick, N: 999999999}, "tick(999999999, 0)")
	wantExp(t, call(api.ECall, "f"), "f()")
	wantExp(t, call(api.ECall, "f", a), "f(a)")
	wantExp(t, call(api.ECall, "f", a, lit(api.I8, 2), b), "f(a, 2i8, b)")
	wantExp(t, call(api.EReset, "f", c), "reset(f(), c_9)")
	wantExp(t, call(api.EReset, "f", a, b, c), "reset(f(a, b), c_9)")
	wantExp(t, of(api.EArr, 0, a), "[a]")
	wantExp(t, of(api.EArr, 0, a, b, lit(api.I8, -2)), "[a, b, (-2i8)]")
	wantExp(t, sized(api.ERep, 4, a), "rep(a, 4)")
	wantExp(t, call(api.EMap, "f", a), "map(f, a)")
	wantExp(t, call(api.EMap, "f", a, b), "map(f, a, b)")
	wantExp(t, call(api.EFold, "f", a, b), "fold(f, a, b)")
}

func TestP401Index(t *testing.T) {
	a, b := name("a"), name("b")
	at := func(n int, e api.Exp) api.Exp { return sized(api.EIndex, n, e) }
	wantExp(t, at(0, a), "a[0]")
	wantExp(t, at(2, at(1, a)), "a[1][2]")
	wantExp(t, at(1, call(api.ECall, "f", a)), "f(a)[1]")
	wantExp(t, at(1, of(api.EBin, api.OpAdd, a, b)), "(a + b)[1]")
	wantExp(t, at(2, at(1, of(api.EBin, api.OpAdd, a, b))), "(a + b)[1][2]")
	wantExp(t, at(1, of(api.EArr, 0, a, b)), "[a, b][1]")
	wantExp(t, at(1, sized(api.ERep, 3, a)), "rep(a, 3)[1]")
	wantExp(t, at(1, call(api.EMap, "f", a)), "map(f, a)[1]")
	wantExp(t, at(1, lit(api.Bool, 1)), "true[1]")
	wantExp(t, at(1, lit(api.I8, 3)), "(3i8)[1]")
	wantExp(t, at(1, lit(api.I8, -3)), "(-3i8)[1]")
	wantExp(t, at(1, lit(api.U64, -3)), "(18446744073709551613u64)[1]")
	wantExp(t, at(2, at(1, lit(api.I8, 3))), "(3i8)[1][2]")
	wantExp(t, of(api.EUn, api.OpNeg, at(0, lit(api.I8, 3))), "(- (3i8)[0])")
}

// TestP401Nested holds each form, as each part of each other one, against the oracle.
func TestP401Nested(t *testing.T) {
	m := maker{rand.New(rand.NewSource(4))}
	for n := range 20000 {
		e := m.exp(1 + n%5)
		if got, want := Exp(e), oracleExp(e); got != want {
			t.Fatalf("%q, not %q", got, want)
		}
	}
}

func TestP402Example(t *testing.T) {
	p, _, e := gram.Parse("node f(x: i8) returns (y: i8) let y = 0i8 -> pre y + x; tel")
	want := "node f(x: i8) returns (y: i8)\nlet\n y = (0i8 -> ((pre y) + x));\ntel\n"
	if got := Print(p); e != api.OK || got != want {
		t.Errorf("%q, not %q", got, want)
	}
	if got := Print(api.Program{Nodes: []api.Node{}}); got != "" {
		t.Errorf("no node: %q", got)
	}
}

func TestP402Lines(t *testing.T) {
	text := strings.Join([]string{
		"node f(x: i8; y: bool) returns (z: i8^4)",
		"var",
		" a: i16 when a and not b and c;",
		" b: u64^16 when not b;",
		" c: bool;",
		"let",
		" x = 1i8;",
		" (x, y) = f();",
		" automaton",
		" state S",
		"  unless a then T;",
		"  unless b continue S;",
		"  var",
		"   l: i32 when l;",
		"   m: u32;",
		"  do",
		"   x = y;",
		"   automaton",
		"   state U",
		"    do",
		"     (x, y, z) = (not a);",
		"    until (a = b) continue U;",
		"   state V",
		"    unless a then U;",
		"    do",
		"     y = z;",
		"   end",
		"  until b then S;",
		"  until c continue T;",
		" state T",
		"  do",
		"   x = z;",
		" end",
		" y = x;",
		"tel",
		"node g() returns (z: u8; w: u16)",
		"let",
		" z = x;",
		"tel",
	}, "\n") + "\n"
	p, at, e := gram.Parse(text)
	if got := Print(p); e != api.OK || got != text {
		t.Errorf("%d, %d: %s", at, e, got)
	}
	if got := strings.Join(oracleLines(p), "\n") + "\n"; got != text {
		t.Errorf("the oracle tells %s", got)
	}
}

func TestP402Oracle(t *testing.T) {
	m := maker{rand.New(rand.NewSource(5))}
	for n := range 3000 {
		p := m.program(n % 4)
		want := ""
		for _, l := range oracleLines(p) {
			want += l + "\n"
		}
		if got := Print(p); got != want {
			t.Fatalf("%s\nnot\n%s", got, want)
		}
	}
}

// TestP402Deepest prints the deepest automata that can be parsed: no blank is missing ahead of them.
func TestP402Deepest(t *testing.T) {
	most := api.MaxDeep - 1
	text := "node f() returns (y: i8) let " + strings.Repeat("automaton state S do ", most) + "y = a; " + strings.Repeat("end ", most) + "tel"
	p, _, e := gram.Parse(text)
	got := Print(p)
	if want := "\n" + strings.Repeat(" ", 2*most+1) + "y = a;\n"; e != api.OK || !strings.Contains(got, want) {
		t.Errorf("%d: %s", e, got)
	}
	if want := strings.Join(oracleLines(p), "\n") + "\n"; got != want {
		t.Errorf("%s\nnot\n%s", got, want)
	}
}

// checkBack asks for a program to be parsed again from what is printed of it, and printed again alike.
func checkBack(t *testing.T, p api.Program) {
	t.Helper()
	text := Print(p)
	q, at, e := gram.Parse(text)
	if e != api.OK {
		t.Fatalf("%d at %d of %s", e, at, text)
	}
	if again := Print(q); again != text {
		t.Fatalf("%s\nagain\n%s", text, again)
	}
	if got, want := withoutAt(q), withoutAt(p); !reflect.DeepEqual(got, want) {
		t.Fatalf("%s\n%+v\nnot\n%+v", text, got, want)
	}
}

func TestP403Texts(t *testing.T) {
	for _, s := range []string{
		"-3i8", "- -3i8", "- - -3i8", "-(3i8)", "-(-(3i8))", "-(3i8[0])", "- 3i8[0]", "-(-3i8[0])", "(-3i8)[0][1]", "-128i8", "-(127i8)", "-1u8", "-(1u8)", "-18446744073709551615u64", "-(18446744073709551615u64)",
		"not 3i8", "not -3i8", "not(3i8[1])", "pre 3i8", "pre -3i8", "-pre 3i8", "-not 3i8", "-true", "-f(3i8)", "-[3i8]", "-(3i8 + 4i8)", "-(3i8 -> 4i8)", "- if a then b else c", "(if a then b else c)[1]", "if a then b else c[1]",
		"a - -3i8", "a - (-b)", "a-3i8", "a - b - c", "a - (b - c)", "a -> b -> c", "(a -> b) -> c", "a fby b fby c", "(a fby b) fby c", "a => b => c", "(a => b) => c", "(a = b) = c", "a = (b = c)", "a or b xor c and d", "a | b ^ c & d", "pre a[1]", "(pre a)[1]", "not a = b",
		"x[1][2][3]", "f()[1]", "tick(2, 1)[0]", "reset(f(a, b), c)[0]", "reset(f(), c)", "when(a, not c)[0]", "merge(c, a, b)[0]", "cast(u8, a)[0]", "rep(a, 2)[0]", "map(f, a)[0]", "fold(f, a, b)[0]", "[a][0]", "true[0]", "1i8[0]",
		"[if a then b else c, pre a, -1i8]", "f(a -> b, c fby d)", "merge(c, a -> b, c)", "when(a + b, c)",
	} {
		p, at, e := gram.Parse("node f(a: i8^0; b: i8^3) returns (y: bool) let y = " + s + "; tel")
		if e != api.OK {
			t.Fatalf("%s: %d at %d", s, e, at)
		}
		checkBack(t, p)
	}
}

func TestP403Made(t *testing.T) {
	m := maker{rand.New(rand.NewSource(6))}
	for n := range 3000 {
		checkBack(t, m.program(n%4))
	}
}

// TestP403Most prints what has the most parts of each sort that are parsed.
func TestP403Most(t *testing.T) {
	many := func(n int, text, between string) string {
		return strings.TrimSuffix(strings.Repeat(text+between, n), between)
	}
	kids := many(api.MaxKids, "a", ", ")
	edges := many(api.MaxKids, "not a", " and ")
	state := "state S " + many(api.MaxKids, "unless a then S;", " ") + " do y = a; " + many(api.MaxKids, "until a then S;", " ")
	for _, s := range []string{
		"node f(" + many(api.MaxVars, "a", ", ") + ": i8) returns (" + many(api.MaxVars, "a: i8^3", "; ") + ") var " + many(api.MaxVars, "a", ", ") + ": u64 when " + edges + "; let " + many(api.MaxItems, "y = a;", " ") + " tel",
		many(api.MaxNodes, "node f() returns (y: bool) let y = a; tel", "\n"),
		"node f() returns (y: bool) let automaton " + many(api.MaxStates, state, " ") + " end tel",
		"node f() returns (y: bool) let (" + kids + ") = f(" + kids + "); y = reset(f(" + kids + "), c); y = [" + kids + "]; y = map(f, " + kids + "); tel",
		"node f() returns (y: bool) let y = " + strings.Repeat("pre ", api.MaxDeep/2-1) + "a; y = a" + strings.Repeat("[1]", 6000) + "; tel",
	} {
		p, at, e := gram.Parse(s)
		if e != api.OK {
			t.Fatalf("%.90s: %d at %d", s, e, at)
		}
		checkBack(t, p)
	}
}

// TestP401Long prints long chains of operations, which are deep, too: they are too deep to be parsed again.
func TestP401Long(t *testing.T) {
	const n = 9000
	for _, x := range []struct{ sign, ahead, between, behind string }{
		{" + ", strings.Repeat("(", n) + "a", " + a)", ""},
		{" -> ", "", "(a -> ", "a" + strings.Repeat(")", n)},
		{" fby ", "", "(a fby ", "a" + strings.Repeat(")", n)},
	} {
		p, at, e := gram.Parse("node f() returns (y: bool) let y = a" + strings.Repeat(x.sign+"a", n) + "; tel")
		if e != api.OK {
			t.Fatalf("%d at %d", e, at)
		}
		if Exp(p.Nodes[0].Items[0].E) != x.ahead+strings.Repeat(x.between, n)+x.behind {
			t.Errorf("%s: another text", x.sign)
		}
	}
}
