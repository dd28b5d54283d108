package gram

import (
	"errors"
	"reflect"
	"strconv"
	"strings"
	"testing"

	"metronome/api"
)

const head = "node f() returns (y: bool) let "

// body is a node with these items; they begin at len(head).
func body(items string) string { return head + items + " tel" }

// equation is a node with one equation; its expression begins at len(eqHead).
func equation(exp string) string { return eqHead + exp + "; tel" }

const eqHead = head + "y = "

// parse asks for a program, and answers it.
func parse(t *testing.T, s string) api.Program {
	t.Helper()
	p, at, e := Parse(s)
	if e != api.OK || at != 0 {
		t.Fatalf("Parse(%.90q) = %d, %d", s, at, e)
	}
	return p
}

// wantFault asks for an error at a place, and for no program beside it.
func wantFault(t *testing.T, s string, where int, what api.Errno) {
	t.Helper()
	p, at, e := Parse(s)
	if at != where || e != what || !reflect.DeepEqual(p, api.Program{}) {
		t.Errorf("Parse(%.90q) = %d nodes, %d, %d; not %d, %d", s, len(p.Nodes), at, e, where, what)
	}
}

// wantFaultAt asks for an error where the mark @, which is no part of the text, stands.
func wantFaultAt(t *testing.T, marked string, what api.Errno) {
	t.Helper()
	at := strings.Index(marked, "@")
	if at < 0 {
		t.Fatalf("no mark in %q", marked)
	}
	wantFault(t, marked[:at]+marked[at+1:], at, what)
}

// wantExp asks for an expression, its places counted from its own beginning.
func wantExp(t *testing.T, s string, want api.Exp) {
	t.Helper()
	p := parse(t, equation(s))
	got := moved(p.Nodes[0].Items[0].E, -len(eqHead))
	if !reflect.DeepEqual(got, want) {
		t.Errorf("%s: %+v, not %+v", s, got, want)
	}
}

func moved(e api.Exp, by int) api.Exp {
	e.At += by
	var kids []api.Exp
	for _, k := range e.Kids {
		kids = append(kids, moved(k, by))
	}
	e.Kids = kids
	return e
}

func variable(name string, at int) api.Exp { return api.Exp{Form: api.EVar, Name: name, At: at} }

func lit(kind, n, at int) api.Exp {
	return api.Exp{Form: api.ELit, T: api.Type{Kind: kind}, N: n, At: at}
}

func of(form, sub, at int, kids ...api.Exp) api.Exp {
	return api.Exp{Form: form, Sub: sub, Kids: kids, At: at}
}

func bin(op int, a, b api.Exp) api.Exp { return of(api.EBin, op, a.At, a, b) }

func index(a api.Exp, n int) api.Exp {
	return api.Exp{Form: api.EIndex, N: n, Kids: []api.Exp{a}, At: a.At}
}

func TestP302Examples(t *testing.T) {
	s := "node f(x: i8) returns (y: i8) let y = 0i8 -> pre y + x; tel"
	want := api.Program{Nodes: []api.Node{{
		Name: "f",
		Ins:  []api.Var{{Name: "x", T: api.Type{Kind: api.I8}, At: 7}},
		Outs: []api.Var{{Name: "y", T: api.Type{Kind: api.I8}, At: 23}},
		Items: []api.Item{{
			Names: []string{"y"},
			E:     of(api.EArrow, 0, 38, lit(api.I8, 0, 38), bin(api.OpAdd, of(api.EPre, 0, 45, variable("y", 49)), variable("x", 53))),
			At:    34,
		}},
	}}}
	if got := parse(t, s); !reflect.DeepEqual(got, want) {
		t.Errorf("%+v", got)
	}
	item := parse(t, body("a = b = c;")).Nodes[0].Items[0]
	if len(item.Names) != 1 || item.Names[0] != "a" || item.E.Form != api.EBin || item.E.Sub != api.OpEq {
		t.Errorf("a = b = c: %+v", item)
	}
	wantFaultAt(t, equation("a < b @< c"), api.ErrSyntax)
	wantExp(t, "- -3i8", of(api.EUn, api.OpNeg, 0, lit(api.I8, -3, 2)))
}

func TestP302Operations(t *testing.T) {
	a, b := variable("a", 0), variable("b", 0)
	for _, x := range []struct {
		sign      string
		form, sub int
	}{
		{"->", api.EArrow, 0}, {"fby", api.EFby, 0}, {"=>", api.EBin, api.OpImp},
		{"or", api.EBin, api.OpOr}, {"xor", api.EBin, api.OpXor}, {"and", api.EBin, api.OpAnd},
		{"=", api.EBin, api.OpEq}, {"<>", api.EBin, api.OpNe}, {"<", api.EBin, api.OpLt}, {"<=", api.EBin, api.OpLe}, {">", api.EBin, api.OpGt}, {">=", api.EBin, api.OpGe},
		{"|", api.EBin, api.OpOr}, {"^", api.EBin, api.OpXor}, {"&", api.EBin, api.OpAnd},
		{"<<", api.EBin, api.OpShl}, {">>", api.EBin, api.OpShr},
		{"+", api.EBin, api.OpAdd}, {"-", api.EBin, api.OpSub},
		{"*", api.EBin, api.OpMul}, {"/", api.EBin, api.OpDiv}, {"mod", api.EBin, api.OpMod},
	} {
		b.At = len(x.sign) + 3
		wantExp(t, "a "+x.sign+" b", of(x.form, x.sub, 0, a, b))
	}
	wantExp(t, "not a", of(api.EUn, api.OpNot, 0, variable("a", 4)))
	wantExp(t, "- a", of(api.EUn, api.OpNeg, 0, variable("a", 2)))
	wantExp(t, "pre a", of(api.EPre, 0, 0, variable("a", 4)))
	wantExp(t, "not - pre a", of(api.EUn, api.OpNot, 0, of(api.EUn, api.OpNeg, 4, of(api.EPre, 0, 6, variable("a", 10)))))
}

// TestP302Precedence holds each two operations against each other: the one of the tighter rule takes the part between them.
func TestP302Precedence(t *testing.T) {
	levels := []string{"->", "fby", "=>", "or xor", "and", "= <> < <= > >=", "| ^", "&", "<< >>", "+ -", "* / mod"}
	for i, l := range levels {
		for j, m := range levels {
			for _, x := range strings.Fields(l) {
				for _, y := range strings.Fields(m) {
					checkPair(t, i, j, x, y)
				}
			}
		}
	}
}

func checkPair(t *testing.T, i, j int, x, y string) {
	s := "a " + x + " b " + y + " c"
	if i == j && i == 5 {
		wantFault(t, equation(s), len(eqHead)+len("a  b ")+len(x), api.ErrSyntax)
		return
	}
	e := parse(t, equation(s)).Nodes[0].Items[0].E
	side := 0
	if j > i || i == j && i < 3 {
		side = 1
	}
	if len(e.Kids[side].Kids) != 2 || len(e.Kids[1-side].Kids) != 0 {
		t.Errorf("%s: %+v", s, e)
	}
}

func TestP302Literals(t *testing.T) {
	wantExp(t, "true", lit(api.Bool, 1, 0))
	wantExp(t, "false", lit(api.Bool, 0, 0))
	wantExp(t, "127i8", lit(api.I8, 127, 0))
	wantExp(t, "-128i8", lit(api.I8, -128, 0))
	wantExp(t, "-  0032768i16", lit(api.I16, -32768, 0))
	wantExp(t, "-2147483648i32", lit(api.I32, -1<<31, 0))
	wantExp(t, "-9223372036854775808i64", lit(api.I64, -1<<63, 0))
	wantExp(t, "-0i8", lit(api.I8, 0, 0))
	wantExp(t, "-1u8", lit(api.U8, 255, 0))
	wantExp(t, "-0u8", lit(api.U8, 0, 0))
	wantExp(t, "-65535u16", lit(api.U16, 1, 0))
	wantExp(t, "-1u32", lit(api.U32, 1<<32-1, 0))
	wantExp(t, "-1u64", lit(api.U64, -1, 0))
	wantExp(t, "0u8", lit(api.U8, 0, 0))
	wantExp(t, "128u8", lit(api.U8, 128, 0))
	wantExp(t, "9223372036854775808u64", lit(api.U64, -1<<63, 0))
	wantExp(t, "-9223372036854775808u64", lit(api.U64, -1<<63, 0))
	wantExp(t, "18446744073709551615u64", lit(api.U64, -1, 0))
	wantExp(t, "-(3i8)", of(api.EUn, api.OpNeg, 0, lit(api.I8, 3, 2)))
	wantExp(t, "-true", of(api.EUn, api.OpNeg, 0, lit(api.Bool, 1, 1)))
	wantExp(t, "- pre 3i8", of(api.EUn, api.OpNeg, 0, of(api.EPre, 0, 2, lit(api.I8, 3, 6))))
	wantExp(t, "not -3i8", of(api.EUn, api.OpNot, 0, lit(api.I8, -3, 4)))
	wantExp(t, "a -3i8", bin(api.OpSub, variable("a", 0), lit(api.I8, 3, 3)))
	wantExp(t, "a - -128i8", bin(api.OpSub, variable("a", 0), lit(api.I8, -128, 4)))
	wantExp(t, "-3i8[1][2]", index(index(lit(api.I8, -3, 0), 1), 2))
	for _, s := range []string{"@128i8", "a - @128i8", "-(@128i8)", "not @32768i16", "- not @2147483648i32", "[0i8, @128i8]", "@9223372036854775808i64", "@0128i8", "if a then @128i8 else b"} {
		wantFaultAt(t, equation(s), api.ErrSyntax)
	}
}

func TestP302Forms(t *testing.T) {
	a, x := variable("a", 0), variable("x", 0)
	at := func(e api.Exp, at int) api.Exp { e.At = at; return e }
	wantExp(t, "a", a)
	wantExp(t, "((a))", at(a, 2))
	wantExp(t, "(a) + b", bin(api.OpAdd, at(a, 1), variable("b", 6)))
	wantExp(t, "(a + b)[3]", index(bin(api.OpAdd, at(a, 1), variable("b", 5)), 3))
	wantExp(t, "x[1][002]", index(index(x, 1), 2))
	wantExp(t, "f()", api.Exp{Form: api.ECall, Name: "f"})
	wantExp(t, "f(a)[0]", index(api.Exp{Form: api.ECall, Name: "f", Kids: []api.Exp{at(a, 2)}}, 0))
	wantExp(t, "f(a, x)", api.Exp{Form: api.ECall, Name: "f", Kids: []api.Exp{at(a, 2), at(x, 5)}})
	wantExp(t, "if a then x else a -> x", of(api.EIf, 0, 0, at(a, 3), at(x, 10), of(api.EArrow, 0, 17, at(a, 17), at(x, 22))))
	wantExp(t, "a + if a then a else a + a", bin(api.OpAdd, a, of(api.EIf, 0, 4, at(a, 7), at(a, 14), bin(api.OpAdd, at(a, 21), at(a, 25)))))
	wantExp(t, "if a then a else x[1]", of(api.EIf, 0, 0, at(a, 3), at(a, 10), index(at(x, 17), 1)))
	wantExp(t, "when(a, c)", api.Exp{Form: api.EWhen, Name: "c", N: 1, Kids: []api.Exp{at(a, 5)}})
	wantExp(t, "when(a, not c)", api.Exp{Form: api.EWhen, Name: "c", Kids: []api.Exp{at(a, 5)}})
	wantExp(t, "merge(c, a, x)", api.Exp{Form: api.EMerge, Name: "c", Kids: []api.Exp{at(a, 9), at(x, 12)}})
	for kind, word := range strings.Fields("bool i8 i16 i32 i64 u8 u16 u32 u64") {
		wantExp(t, "cast("+word+", a)", api.Exp{Form: api.ECast, T: api.Type{Kind: kind + api.Bool}, Kids: []api.Exp{at(a, 7+len(word))}})
	}
	wantExp(t, "tick(3, 1)", api.Exp{Form: api.ETick, N: 3, M: 1})
	wantExp(t, "tick(0, 999999999)", api.Exp{Form: api.ETick, M: 999999999})
	wantExp(t, "reset(f(), a)", api.Exp{Form: api.EReset, Name: "f", Kids: []api.Exp{at(a, 11)}})
	wantExp(t, "reset(f(a), x)", api.Exp{Form: api.EReset, Name: "f", Kids: []api.Exp{at(a, 8), at(x, 12)}})
	wantExp(t, "[a]", of(api.EArr, 0, 0, at(a, 1)))
	wantExp(t, "[a, x][1]", index(of(api.EArr, 0, 0, at(a, 1), at(x, 4)), 1))
	wantExp(t, "rep(a, 4)", api.Exp{Form: api.ERep, N: 4, Kids: []api.Exp{at(a, 4)}})
	wantExp(t, "map(f, a)", api.Exp{Form: api.EMap, Name: "f", Kids: []api.Exp{at(a, 7)}})
	wantExp(t, "map(f, a, x)", api.Exp{Form: api.EMap, Name: "f", Kids: []api.Exp{at(a, 7), at(x, 10)}})
	wantExp(t, "fold(f, a, x)", api.Exp{Form: api.EFold, Name: "f", Kids: []api.Exp{at(a, 8), at(x, 11)}})
}

func TestP302Nodes(t *testing.T) {
	lines := []string{
		"node f(a, b: i8; c: bool^4) returns (y: u64; v: i16)",
		"var z, w: i8 when a and not b; u: bool; let",
		"(y, z) = f(a);",
		"automaton state S unless (a) = b then S; unless c continue T; var l: u32 when c; do l = a; (y) = b; until b continue T;",
		"state T do automaton state U do y = b; end until c then S; until b then T; end",
		"tel",
		"node g() returns (y: bool) let y = true; tel",
	}
	s := strings.Join(lines, "\n")
	at := func(piece string, on int) int { return strings.Index(s, piece) + on }
	kind := func(k int) api.Type { return api.Type{Kind: k} }
	eq := func(from int, e api.Exp, names ...string) api.Item { return api.Item{Names: names, E: e, At: from} }
	clock := func() []api.Edge { return []api.Edge{{Name: "a", On: true}, {Name: "b"}} }
	inner := api.Item{At: at("automaton state U", 0), States: []api.State{{Name: "U", At: at("state U", 0), Items: []api.Item{eq(at("y = b; end", 0), variable("b", at("y = b; end", 4)), "y")}}}}
	want := api.Program{Nodes: []api.Node{{
		Name:   "f",
		Ins:    []api.Var{{Name: "a", T: kind(api.I8), At: 7}, {Name: "b", T: kind(api.I8), At: 10}, {Name: "c", T: api.Type{Kind: api.Bool, Len: 4}, At: 17}},
		Outs:   []api.Var{{Name: "y", T: kind(api.U64), At: at("y: u64", 0)}, {Name: "v", T: kind(api.I16), At: at("v: i16", 0)}},
		Locals: []api.Var{{Name: "z", T: kind(api.I8), Clock: clock(), At: at("z, w", 0)}, {Name: "w", T: kind(api.I8), Clock: clock(), At: at("z, w", 3)}, {Name: "u", T: kind(api.Bool), At: at("u: bool", 0)}},
		Items: []api.Item{
			eq(at("(y, z)", 0), api.Exp{Form: api.ECall, Name: "f", Kids: []api.Exp{variable("a", at("f(a);", 2))}, At: at("f(a);", 0)}, "y", "z"),
			{At: at("automaton state S", 0), States: []api.State{
				{
					Name: "S", At: at("state S", 0),
					Unless: []api.Trans{{Cond: bin(api.OpEq, variable("a", at("(a) =", 1)), variable("b", at("(a) =", 6))), To: "S", At: at("(a) =", 1)}, {Cond: variable("c", at("c continue", 0)), To: "T", Cont: true, At: at("c continue", 0)}},
					Locals: []api.Var{{Name: "l", T: kind(api.U32), Clock: []api.Edge{{Name: "c", On: true}}, At: at("l: u32", 0)}},
					Items:  []api.Item{eq(at("l = a", 0), variable("a", at("l = a", 4)), "l"), eq(at("(y) =", 0), variable("b", at("(y) =", 6)), "y")},
					Until:  []api.Trans{{Cond: variable("b", at("b continue", 0)), To: "T", Cont: true, At: at("b continue", 0)}},
				},
				{
					Name: "T", At: at("state T", 0),
					Items: []api.Item{inner},
					Until: []api.Trans{{Cond: variable("c", at("c then S", 0)), To: "S", At: at("c then S", 0)}, {Cond: variable("b", at("b then T", 0)), To: "T", At: at("b then T", 0)}},
				},
			}},
		},
	}, {
		Name: "g", At: at("node g", 0),
		Outs:  []api.Var{{Name: "y", T: kind(api.Bool), At: at("y: bool", 0)}},
		Items: []api.Item{eq(at("y = true", 0), lit(api.Bool, 1, at("true", 0)), "y")},
	}}}
	if got := parse(t, s); !reflect.DeepEqual(got, want) {
		t.Errorf("%+v\nnot\n%+v", got, want)
	}
}

func TestP301Empty(t *testing.T) {
	for _, s := range []string{"", " \n", "-- node"} {
		if p := parse(t, s); len(p.Nodes) != 0 {
			t.Errorf("%q: %+v", s, p)
		}
	}
}

func TestP301LexFirst(t *testing.T) {
	wantFaultAt(t, "node node node @#", api.ErrByte)
	wantFaultAt(t, "tel @5x", api.ErrNumber)
	wantFaultAt(t, "tel @"+strings.Repeat("n", api.MaxName+1), api.ErrLong)
	wantFault(t, strings.Repeat(" ", api.MaxSource+1), 0, api.ErrLong)
	wantFault(t, strings.Repeat("+ ", api.MaxTokens+5), 2*api.MaxTokens, api.ErrLong)
}

// TestP301Cut cuts a text that has every rule in it ahead of each of its tokens: all but the whole nodes are wrong at the end.
func TestP301Cut(t *testing.T) {
	s := strings.Fields("node f ( a , b : i8 ; c : bool ^ 4 ) returns ( y : u8 ) var z : i8 when a and not b ; w : bool ; let ( y , z ) = f ( a , - 3i8 ) ; " +
		"automaton state S unless a -> b then S ; var l : i8 ; do l = a fby b => c or d and e < f | g & h << i + j * k ; until b continue T ; state T do y = not pre x [ 1 ] ; end " +
		"q = if a then ( b ) else true ; q = when ( a , not b ) ; q = merge ( a , b , c ) ; q = cast ( u8 , a ) ; q = tick ( 1 , 2 ) ; q = reset ( f ( a ) , b ) ; " +
		"q = [ a , b ] ; q = rep ( a , 2 ) ; q = map ( f , a ) ; q = fold ( f , a , b ) ; tel")
	parse(t, strings.Join(s, " "))
	for n := 1; n < len(s); n++ {
		wantFaultAt(t, strings.Join(s[:n], " ")+" @", api.ErrSyntax)
		wantFaultAt(t, strings.Join(s[:n], " ")+" @on "+strings.Join(s[n:], " "), api.ErrSyntax)
	}
}

func TestP301Syntax(t *testing.T) {
	for _, s := range []string{
		"@x", "@;", "@5", "@5i8", "@tel", "node@", "node @if() returns (y: bool) let y = a; tel", "node f@", "node f @returns",
		"node f(@;", "node f(a@)", "node f(a, @: i8)", "node f(a: @x)", "node f(a: i8@, b: i8)", "node f(a: i8; @)", "node f(a: i8^@x)", "node f(a: i8^@2i8)", "node f(a: i8 @when b)",
		"node f() returns (@)", "node f() @let", "node f() returns (y: bool) var @let", "node f() returns (y: bool) var a: i8 @let", "node f() returns (y: bool) var a: i8; @var",
		"node f() returns (y: bool) var a: i8 when @; let", "node f() returns (y: bool) var a: i8 when not @not b; let", "node f() returns (y: bool) var a: i8 when b and @; let", "node f() returns (y: bool) var a: i8 when b@, c; let",
		head + "@tel", body("y = a; @;"), body("y@;"), body("(@) = a;"), body("(y,@) = a;"), body("(y @= a;"), body("y @:= a;"), body("y@, z = a;"), body("@5 = a;"), head + "y = a @tel",
		body("y = a;") + " @tel", body("y = a;") + " @x", body("y = a;") + " node@",
		body("automaton @end"), body("automaton state @do"), body("automaton state S @y = a; end"), body("automaton state S do @end"), body("automaton state S do @until a then S; end"), body("automaton state S do y = a; @unless a then S; end"), head + "automaton state S do y = a; @tel",
		body("automaton state S unless @then S; do y = a; end"), body("automaton state S unless a @S; do y = a; end"), body("automaton state S unless a then @; do y = a; end"), body("automaton state S unless a then S @do y = a; end"), body("automaton state S var a: i8; @unless b then S; do y = a; end"), body("automaton state S do y = a; until a continue @5; end"),
	} {
		wantFaultAt(t, s, api.ErrSyntax)
	}
}

func TestP301SyntaxOfExpressions(t *testing.T) {
	for _, s := range []string{
		"@", "@5", "@on", "@)", "(@)", "(a@", "(a@, b)", "a @b", "a @5i8", "a[@b]", "a[@1i8]", "a[@]", "a[1@", "a[1@, 2]", "a + @", "a + @* b", "@* a", "a @not b", "not @", "pre @", "- @5", "a < b @= c", "a = b @= c", "a -> @", "@-> b",
		"f(@, a)", "f(a, @)", "f(a@;", "f(a @b)", "if @then a else b", "if a @else b", "if a then b@", "if a then b else @",
		"when@", "when(@", "when(a@)", "when(a, @5)", "when(a, not @not c)", "when(a, c@, d)", "when(a, c @and d)", "when(a, @(c))",
		"merge(@1i8, a, b)", "merge(@(c), a, b)", "merge(c, a@)", "merge(c, a, b@, d)", "merge(c@[1], a, b)", "merge(@not c, a, b)",
		"cast(@a, b)", "cast(i8@)", "cast(i8@^2, a)", "cast(u8, a@, b)", "tick(@a, 1)", "tick(1@)", "tick(1, @1i8)", "tick(1, @-1)", "tick(1, 2@, 3)",
		"reset(f@, a)", "reset(f()@)", "reset(f(a)@[1], b)", "reset(@(f()), b)", "reset(f(a), b@, c)", "[@]", "[a, @]", "[a@)", "rep(a@)", "rep(a, @b)", "rep(a, 2@[1])",
		"map(@)", "map(f@)", "map(f, @)", "map(@[a], b)", "fold(f, a@)", "fold(f, a, b@, c)", "fold@[1]", "@then", "@state", "@i8", "@mod b", "true@(a)", "5i8@(a)", "a@:", "f(a)@(b)",
	} {
		wantFaultAt(t, equation(s), api.ErrSyntax)
	}
}

// repeated is n times a text, with another one between each two.
func repeated(n int, text, between string) string {
	return strings.TrimSuffix(strings.Repeat(text+between, n), between)
}

// checkMost asks for a text with the most parts to be taken, and for one more to be ErrLong where it begins; ahead and behind are what stands around them.
func checkMost(t *testing.T, most int, ahead, part, between, behind string) {
	t.Helper()
	list := repeated(most, part, between)
	parse(t, ahead+list+behind)
	wantFaultAt(t, ahead+list+between+"@"+part+behind, api.ErrLong)
	wantFaultAt(t, ahead+list+between+"@"+part+between+part+" on", api.ErrLong)
}

func TestP301Most(t *testing.T) {
	item := "y = a; "
	checkMost(t, api.MaxNodes, "", body("y = a;"), "\n", "")
	checkMost(t, api.MaxVars, "node f(", "a", ", ", ": bool) returns (y: bool) let y = a; tel")
	checkMost(t, api.MaxVars, "node f(", "a: bool", "; ", ") returns (y: bool) let y = a; tel")
	checkMost(t, api.MaxVars-2, "node f(b, c: i8; ", "a: bool", "; ", ") returns (y: bool) let y = a; tel")
	checkMost(t, api.MaxVars, "node f("+repeated(200, "a", ",")+": i8) returns (", "a", ", ", ": bool) let y = a; tel")
	checkMost(t, api.MaxVars, "node f() returns ("+repeated(200, "a", ",")+": i8) var ", "a: bool;", " ", " let y = a; tel")
	checkMost(t, api.MaxVars, head+"automaton state T var "+repeated(200, "a", ",")+": i8; do y = a; state S var ", "a", ",", ": u8; do y = a; end tel")
	checkMost(t, api.MaxItems, head, item, "", "tel")
	checkMost(t, api.MaxItems, head, "(y) = a;", "", "tel")
	checkMost(t, api.MaxItems, head, "automaton state S do y = a; end ", "", "tel")
	checkMost(t, api.MaxItems, head+repeated(199, item, "")+"automaton state S do ", item, "", "end tel")
	checkMost(t, api.MaxStates, head+"automaton ", "state S do y = a; ", "", "end tel")
	checkMost(t, api.MaxKids, head+"automaton state S ", "unless a then S; ", "", "do y = a; end tel")
	checkMost(t, api.MaxKids, head+"automaton state S "+repeated(16, "unless a then S;", "")+"do y = a; ", "until a continue S; ", "", "end tel")
	checkMost(t, api.MaxKids, "node f() returns (y: bool) var a: i8 when ", "b", " and ", "; let y = a; tel")
	checkMost(t, api.MaxKids, "node f() returns (y: bool) var a: i8 when ", "not b", " and ", "; let y = a; tel")
	checkMost(t, api.MaxKids, head+"(", "y", ", ", ") = a; tel")
	for _, x := range [][2]string{{"f(", ")"}, {"[", "]"}, {"map(f, ", ")"}, {"reset(f(", "), c)"}} {
		checkMost(t, api.MaxKids, eqHead+x[0], "a", ", ", x[1]+"; tel")
		checkMost(t, api.MaxKids, eqHead+x[0], "-(not a)", ", ", x[1]+"; tel")
	}
	wantFaultAt(t, equation("["+repeated(16, "a", ",")+", @128i8]"), api.ErrLong)
	e := parse(t, equation("reset(f("+repeated(16, "a", ",")+"), c)")).Nodes[0].Items[0].E
	if len(e.Kids) != 17 || e.Kids[16].Name != "c" {
		t.Errorf("a reset of 16 arguments has %d kids", len(e.Kids))
	}
}

// TestP301NoneTooMany has full lists, behind which stands what begins no part: it is no part too many, it may not stand there.
func TestP301NoneTooMany(t *testing.T) {
	wantFaultAt(t, repeated(60, body("y = a;"), " ")+" @x", api.ErrSyntax)
	wantFaultAt(t, "node f("+repeated(200, "a", ",")+", @5: i8)", api.ErrSyntax)
	wantFaultAt(t, "node f("+repeated(200, "a: i8", ";")+"; @)", api.ErrSyntax)
	wantFaultAt(t, "node f() returns (y: bool) var "+repeated(200, "a: i8;", " ")+" @5", api.ErrSyntax)
	wantFaultAt(t, head+"("+repeated(16, "y", ",")+", @) = a;", api.ErrSyntax)
	wantFaultAt(t, "node f() returns (y: bool) var a: i8 when "+repeated(16, "b", " and ")+" and @5;", api.ErrSyntax)
	wantFaultAt(t, body(repeated(200, "y = a;", "")+" @;"), api.ErrSyntax)
	wantFaultAt(t, body("automaton "+repeated(16, "state S do y = a;", " ")+" @tel"), api.ErrSyntax)
	wantFaultAt(t, body("automaton state S "+repeated(16, "unless a then S;", " ")+" @until a then S;"), api.ErrSyntax)
	for _, token := range []string{")", ",", "5", "* a", "on", "then"} {
		wantFaultAt(t, equation("f("+repeated(16, "a", ",")+", @"+token), api.ErrSyntax)
		wantFaultAt(t, equation(strings.Repeat("(", 40)+"@"+token), api.ErrSyntax)
	}
}

func TestP301Deep(t *testing.T) {
	deep := func(n int, ahead, mid, behind string) string {
		return strings.Repeat(ahead, n) + mid + strings.Repeat(behind, n)
	}
	// Each pair of texts around a part begins one exp or unary within the others; the first exp is the equation's.
	for _, x := range [][2]string{
		{"(", ")"}, {"not ", ""}, {"- ", ""}, {"pre ", ""}, {"[", "]"}, {"f(", ")"}, {"f(a, ", ")"}, {"if ", " then a else a"}, {"if a then ", " else a"}, {"if a then a else ", ""},
		{"when(", ", c)"}, {"merge(c, ", ", a)"}, {"merge(c, a, ", ")"}, {"cast(u8, ", ")"}, {"reset(f(", "), a)"}, {"reset(f(a), ", ")"}, {"rep(", ", 2)"}, {"map(f, ", ")"}, {"fold(f, ", ", a)"}, {"fold(f, a, ", ")"},
	} {
		most := api.MaxDeep - 1
		parse(t, equation(deep(most, x[0], "a", x[1])))
		wantFaultAt(t, equation(deep(most, x[0], "@- a", x[1])), api.ErrLong)
		wantFaultAt(t, equation(deep(most, x[0], "@-3i8", x[1])), api.ErrLong)
		wantFaultAt(t, equation(deep(most, x[0], "(@a)", x[1])), api.ErrLong)
		wantFaultAt(t, equation(deep(most, x[0], "(@128i8)", x[1])), api.ErrLong)
		wantFaultAt(t, equation(deep(most, x[0], "f(@not a)", x[1])), api.ErrLong)
	}
	// What is over counts no more.
	parse(t, equation(repeated(100, "(not a)", " + ")))
	parse(t, equation(deep(38, "(", "(a) + (a) + - a", ")")))
	parse(t, body(repeated(100, "y = - - -a;", " ")))
	// A sign between parts begins no exp.
	for _, sign := range []string{"->", "fby", "=>", "and", "+"} {
		parse(t, equation(repeated(9000, "a", " "+sign+" ")))
	}
	parse(t, equation("a"+strings.Repeat("[1]", 6000)))
}

func TestP301DeepAutomata(t *testing.T) {
	const open, shut = "automaton state S do ", " end"
	nest := func(n int, mid string) string {
		return body(strings.Repeat(open, n) + mid + strings.Repeat(shut, n))
	}
	parse(t, nest(39, "y = a;"))
	wantFaultAt(t, nest(39, "y = @-a;"), api.ErrLong)
	wantFaultAt(t, nest(39, "y = (@a);"), api.ErrLong)
	wantFaultAt(t, nest(40, "y = @a;"), api.ErrLong)
	wantFaultAt(t, nest(40, "y = @;"), api.ErrSyntax)
	wantFaultAt(t, nest(40, "@automaton state S do y = a; end"), api.ErrLong)
	parse(t, nest(38, open+"y = a; until a then S;"+shut))
	parse(t, nest(38, "automaton state S unless a then S; do y = a; end"))
	wantFaultAt(t, nest(38, "automaton state S unless @not a then S; do y = a; end"), api.ErrLong)
	wantFaultAt(t, nest(38, open+"y = a; until (@a) then S;"+shut), api.ErrLong)
	parse(t, nest(38, repeated(100, open+"y = a;"+shut, " ")))
}

func TestP301TheFirst(t *testing.T) {
	wantFaultAt(t, equation("f("+repeated(16, "a", ",")+",@a,"+strings.Repeat("(", 50)), api.ErrLong)
	wantFaultAt(t, equation("f(a @b, "+repeated(20, "a", ",")+")"), api.ErrSyntax)
	wantFaultAt(t, "node f("+repeated(200, "a", ",")+",@a, 5", api.ErrLong)
	wantFaultAt(t, "node f(@5, "+repeated(300, "a", ",")+": i8)", api.ErrSyntax)
}

func TestP303Alone(t *testing.T) {
	s := rich()
	first := parse(t, s)
	again := parse(t, s)
	spoil(reflect.ValueOf(&first).Elem())
	Parse("node f(")
	if third := parse(t, s); !reflect.DeepEqual(again, third) || reflect.DeepEqual(first, third) {
		t.Error("an answer hangs on another one")
	}
}

// rich is a program with lists of each sort, declared by lists of names.
func rich() string {
	return "node g(a, b: i8^2; c: bool) returns (y, z: i8) var u, v, w: i8 when c and not d; d: bool; let (y, z) = reset(f(a, b[1], [a, b, c, 1i8, 2i8]), map(g, a, b, c));" +
		"automaton state S unless a then T; unless b then T; var p, q: u8 when c; do u = a + b + c; until c then S; state T do (u, v) = if a then b else merge(c, d, f()); end tel\n" + body("y = fold(f, a, b);")
}

// spoil turns all that lies behind the lists, within their spare room, too.
func spoil(v reflect.Value) {
	switch v.Kind() {
	case reflect.Slice:
		whole := v.Slice(0, v.Cap())
		for i := range whole.Len() {
			spoil(whole.Index(i))
		}
	case reflect.Struct:
		for i := range v.NumField() {
			spoil(v.Field(i))
		}
	case reflect.String:
		v.SetString(v.String() + "!")
	case reflect.Int:
		v.SetInt(v.Int() + 1)
	case reflect.Bool:
		v.SetBool(!v.Bool())
	}
}

func TestP303OwnLists(t *testing.T) {
	p := parse(t, rich())
	seen := map[uintptr]bool{}
	var look func(v reflect.Value)
	look = func(v reflect.Value) {
		switch v.Kind() {
		case reflect.Slice:
			size := v.Type().Elem().Size()
			for i := range v.Cap() {
				p := v.Pointer() + uintptr(i)*size
				if seen[p] {
					t.Error("two lists share memory: " + v.Type().String())
				}
				seen[p] = true
			}
			for i := range v.Len() {
				look(v.Index(i))
			}
		case reflect.Struct:
			for i := range v.NumField() {
				look(v.Field(i))
			}
		}
	}
	look(reflect.ValueOf(p))
	if len(seen) < 60 {
		t.Errorf("only %d places were looked at", len(seen))
	}
}

func TestP301GivesUp(t *testing.T) {
	f := fault{7, api.ErrLong}
	if f.Error() != "error "+strconv.Itoa(int(api.ErrLong))+" at 7" {
		t.Error(f.Error())
	}
	if at, e := told(f); at != 7 || e != api.ErrLong {
		t.Errorf("%d, %d", at, e)
	}
	for _, r := range []any{errors.New("other"), 5} {
		if at, e := told(r); at != 0 || e != api.ErrSyntax {
			t.Errorf("%v: %d, %d", r, at, e)
		}
	}
}
