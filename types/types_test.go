package types

import (
	"math"
	"slices"
	"strconv"
	"strings"
	"testing"

	"metronome/api"
	"metronome/gram"
	"metronome/names"
)

// parsed is the program of a text, whose names must be right.
func parsed(t *testing.T, text string) api.Program {
	t.Helper()
	p, at, e := gram.Parse(text)
	if e != api.OK {
		t.Fatalf("%s: error %d at %d", text, e, at)
	}
	if at, e := names.Check(p); e != api.OK {
		t.Fatalf("%s: names: error %d at %d", text, e, at)
	}
	return p
}

// marked is a text without its @, and where that stood.
func marked(text string) (string, int) {
	return strings.Replace(text, "@", "", 1), max(0, strings.IndexByte(text, '@'))
}

// holds asks the program of a text, in which an @ marks where it is wrong.
func holds(t *testing.T, want api.Errno, text string) {
	t.Helper()
	text, at := marked(text)
	if got, e := Check(parsed(t, text)); got != at || e != want {
		t.Errorf("%s: error %d at %d, not %d at %d", text, e, got, want, at)
	}
}

// Nodes that expressions may call.
const callable = `node none() returns (o: u8) let o = 1u8; tel
node neg(i: i8) returns (o: i8) let o = -i; tel
node two(i: i8) returns (o, p: i8) let o = i; p = i; tel
node mix(i: i8; j: bool) returns (o: bool; p: u8) let o = j; p = cast(u8, i); tel
node add(i, j: i8) returns (o: i8) let o = i + j; tel
node count(i: u8; j: bool) returns (o: u8) let o = if j then i + 1u8 else i; tel
node less(i, j: i8) returns (o: bool) let o = i < j; tel
node three(i, j, k: i8) returns (o: i8) let o = i + j + k; tel
node arr(a: i8^2) returns (b: i8^2) let b = a; tel
node sum(a: i8^2) returns (o: i8) let o = a[0] + a[1]; tel
node pair(i: i8) returns (a: i8^2) let a = [i, i]; tel
node grow(a: i8^2; i: i8) returns (b: i8^2) let b = [a[0] + i, a[1]]; tel
node deep(i: i8; a: i8^2) returns (o: i8) let o = i + a[0]; tel
node out(i, j: i8) returns (a: i8^2) let a = [i, j]; tel
`

// The node of an expression, with its variables.
const around = "node f(x: i8; u: u8; b: bool; xs: i8^2; us: u8^3; bs: bool^3) returns (y: i8) var l: i16; let l = 0i16; y = x; tel\n"

// expOf is an expression, with the program and the node that it is of, and where it begins.
func expOf(t *testing.T, text string) (api.Program, api.Node, api.Exp, int) {
	t.Helper()
	const ahead = "node f() returns (y: bool) let y = "
	p, at, e := gram.Parse(ahead + text + "; tel")
	if e != api.OK {
		t.Fatalf("%s: error %d at %d", text, e, at-len(ahead))
	}
	q := parsed(t, callable+around)
	return q, q.Nodes[len(q.Nodes)-1], p.Nodes[0].Items[0].E, len(ahead)
}

// isOf holds an expression's types.
func isOf(t *testing.T, text string, want ...api.Type) {
	t.Helper()
	p, n, exp, _ := expOf(t, text)
	if types, at, e := Of(p, n, nil, exp); !slices.Equal(types, want) || at != 0 || e != api.OK {
		t.Errorf("%s: %v, error %d at %d, not %v", text, types, e, at, want)
	}
}

// wrongs holds expressions without types; an @ marks where each is wrong.
func wrongs(t *testing.T, want api.Errno, texts ...string) {
	t.Helper()
	for _, text := range texts {
		text, at := marked(text)
		p, n, exp, ahead := expOf(t, text)
		if types, got, e := Of(p, n, nil, exp); len(types) != 0 || got != at+ahead || e != want {
			t.Errorf("%s: %v, error %d at %d, not %d at %d", text, types, e, got-ahead, want, at)
		}
	}
}

func kind(k int) api.Type { return api.Type{Kind: k} }

func array(k, n int) api.Type { return api.Type{Kind: k, Len: n} }

func TestP601Examples(t *testing.T) {
	wrongs(t, api.ErrType, "@1i8 + 1i16")
	wrongs(t, api.ErrCount, "@[1i8, 2i8][2]", "@two(x) + x", "x + @two(x)")
	isOf(t, "map(neg, [1i8, 2i8])", array(api.I8, 2))
	holds(t, api.ErrCount, "node g(x, y: i8) returns (a, b: i8) let a = x; b = y; tel node f(x, y: i8) returns (z: i8) let z = x + @g(x, y); tel")
}

func TestP601Plain(t *testing.T) {
	isOf(t, "true", kind(api.Bool))
	isOf(t, "-1i8", kind(api.I8))
	for k, text := range map[int]string{api.I8: "i8", api.I16: "i16", api.I32: "i32", api.I64: "i64", api.U8: "u8", api.U16: "u16", api.U32: "u32", api.U64: "u64"} {
		isOf(t, "1"+text, kind(k))
		isOf(t, "cast("+text+", b)", kind(k))
	}
	isOf(t, "x", kind(api.I8))
	isOf(t, "u", kind(api.U8))
	isOf(t, "b", kind(api.Bool))
	isOf(t, "xs", array(api.I8, 2))
	isOf(t, "l", kind(api.I16))
	isOf(t, "y", kind(api.I8))
	isOf(t, "cast(bool, x)", kind(api.Bool))
	wrongs(t, api.ErrType, "@cast(i8, xs)", "@cast(bool, bs)", "cast(i8, @x + u)", "@cast(u8, [1u8])")
	wrongs(t, api.ErrCount, "cast(i8, @two(x))")
}

// TestP601Operations asks each operation of each two kinds, against a table of what is allowed.
func TestP601Operations(t *testing.T) {
	kinds := []string{api.Bool: "true", api.I8: "1i8", api.I16: "1i16", api.I32: "1i32", api.I64: "1i64", api.U8: "1u8", api.U16: "1u16", api.U32: "1u32", api.U64: "1u64"}
	const numbers, bools, tests = 1, 2, 4
	for op, is := range map[string]int{
		"+": numbers, "-": numbers, "*": numbers, "/": numbers, "mod": numbers, "<<": numbers, ">>": numbers,
		"and": numbers | bools, "or": numbers | bools, "xor": numbers | bools, "&": numbers | bools, "|": numbers | bools, "^": numbers | bools, "=>": bools,
		"=": numbers | bools | tests, "<>": numbers | bools | tests, "<": numbers | tests, "<=": numbers | tests, ">": numbers | tests, ">=": numbers | tests,
	} {
		for a := api.Bool; a <= api.U64; a++ {
			for b := api.Bool; b <= api.U64; b++ {
				text := kinds[a] + " " + op + " " + kinds[b]
				switch fits := a == b && (a == api.Bool && is&bools != 0 || a != api.Bool && is&numbers != 0); {
				case !fits:
					wrongs(t, api.ErrType, "@"+text)
				case is&tests != 0:
					isOf(t, text, kind(api.Bool))
				default:
					isOf(t, text, kind(a))
				}
			}
		}
		wrongs(t, api.ErrType, "@xs "+op+" xs", "@xs "+op+" x", "@x "+op+" xs", "@bs "+op+" bs", "b "+op+" (@b "+op+" x)")
		wrongs(t, api.ErrCount, "@two(x) "+op+" x", "x "+op+" @two(x)", "@two(x) "+op+" two(x)")
	}
	for k := api.Bool; k <= api.U64; k++ {
		isOf(t, "not "+kinds[k], kind(k))
		isOf(t, "not - ("+kinds[max(k, api.I8)]+")", kind(max(k, api.I8)))
	}
	wrongs(t, api.ErrType, "@-true", "@-b", "@-xs", "@not xs", "@not bs", "not @-b", "- @-b")
	wrongs(t, api.ErrCount, "not @two(x)", "-@mix(x, b)")
}

func TestP601Choices(t *testing.T) {
	for text, want := range map[string]api.Type{
		"if b then x else y": kind(api.I8), "if b then xs else [x, y]": array(api.I8, 2), "if x < y then b else not b": kind(api.Bool), "if b then bs else bs": array(api.Bool, 3),
		"pre x": kind(api.I8), "pre bs": array(api.Bool, 3), "x -> y": kind(api.I8), "us -> pre us": array(api.U8, 3), "b fby b": kind(api.Bool), "xs fby rep(x, 2)": array(api.I8, 2),
		"when(x, b)": kind(api.I8), "when(xs, not b)": array(api.I8, 2), "merge(b, x, y)": kind(api.I8), "merge(b, xs, pre xs)": array(api.I8, 2),
		"tick(1, 0)": kind(api.Bool), "tick(64, 63)": kind(api.Bool), "tick(2, 1)": kind(api.Bool),
	} {
		isOf(t, text, want)
	}
	wrongs(t, api.ErrType, "@if x then x else y", "@if bs then x else x", "@if b then x else u", "@if b then x else xs", "@if b then us else bs", "if b then x else @x + u", "if @x = u then x else (x + u)",
		"@x -> u", "@x -> xs", "@xs -> us", "x -> (@x -> b)", "@x fby u", "@us fby bs", "@xs fby x", "pre @-b", "@pre x + u",
		"@when(x, x)", "@when(x, bs)", "@when(b, not xs)", "when(@-b, x)", "@merge(x, x, y)", "@merge(bs, x, y)", "@merge(b, x, u)", "@merge(b, xs, us)", "@merge(b, x, xs)", "merge(x, @-b, u)", "merge(x, x, @-b)")
	wrongs(t, api.ErrCount, "@tick(0, 0)", "@tick(65, 0)", "@tick(1, 1)", "@tick(2, 2)", "@tick(2, 3)", "@tick(999999999, 1)", "@tick(64, 64)", "not @tick(0, 0)",
		"if @two(x) then x else y", "if b then @two(x) else two(x)", "if b then x else @two(x)", "pre @two(x)", "@two(x) -> two(x)", "x -> @two(x)", "x fby @two(x)", "when(@two(x), b)", "merge(b, @two(x), x)", "merge(b, x, @two(x))")
}

func TestP601Calls(t *testing.T) {
	isOf(t, "none()", kind(api.U8))
	isOf(t, "neg(x)", kind(api.I8))
	isOf(t, "two(x)", kind(api.I8), kind(api.I8))
	isOf(t, "mix(x, b)", kind(api.Bool), kind(api.U8))
	isOf(t, "arr(xs)", array(api.I8, 2))
	isOf(t, "neg(neg(-x))", kind(api.I8))
	isOf(t, "reset(none(), b)", kind(api.U8))
	isOf(t, "reset(mix(x, b), x = y)", kind(api.Bool), kind(api.U8))
	isOf(t, "reset(arr(xs), true)", array(api.I8, 2))
	wrongs(t, api.ErrCount, "@neg()", "@neg(x, x)", "@neg(xs, u)", "@none(x)", "@mix(b)", "@mix(x, b, b)", "@reset(neg(), b)", "@reset(neg(x, x), b)", "@reset(none(b), b)", "@reset(mix(x), b)", "@reset(neg(), x)", "@reset(neg(u, u), u)",
		"neg(@two(x))", "neg(@two(x), x)", "add(x, @two(x))", "reset(neg(@two(x)), b)", "reset(neg(x), @two(x))", "mix(@mix(x, b))", "x + @reset(two(x), b)", "x + @reset(two(x), x < y)")
	wrongs(t, api.ErrType, "@neg(u)", "@neg(xs)", "@mix(b, x)", "@mix(x, x)", "@arr(x)", "@arr(us)", "@arr([x])", "@sum([x, x, x])", "@reset(neg(u), b)", "@reset(neg(x), x)", "@reset(neg(x), bs)", "@reset(none(), u)", "@reset(mix(b, x), b)", "neg(@-b)", "reset(neg(x), @-b)", "neg(x, @-b)", "none(@-b)")
}

func TestP601Arrays(t *testing.T) {
	many := func(n int) string { return strings.TrimSuffix(strings.Repeat("x, ", n), ", ") }
	isOf(t, "[x]", array(api.I8, 1))
	isOf(t, "[b, b, true]", array(api.Bool, 3))
	isOf(t, "["+many(16)+"]", array(api.I8, 16))
	isOf(t, "xs[0]", kind(api.I8))
	isOf(t, "xs[1]", kind(api.I8))
	isOf(t, "bs[2]", kind(api.Bool))
	isOf(t, "rep(u, 1)", array(api.U8, 1))
	isOf(t, "rep(b, 16)[15]", kind(api.Bool))
	wrongs(t, api.ErrType, "@[x, u]", "@[x, x, b]", "@[xs]", "@[xs, xs]", "@[x, xs]", "@[[x], [y]]", "[x, @-b, u]", "@x[0]", "@b[9]", "@xs[0][0]", "@xs[1][2]", "@rep(xs, 2)", "@rep(xs, 0)", "@rep([x], 17)", "rep(@-b, 0)")
	wrongs(t, api.ErrCount, "@xs[2]", "@xs[3]", "@bs[3]", "@[x][1]", "@xs[999999999]", "@rep(x, 0)", "@rep(x, 17)", "@rep(x, 999999999)", "@rep(b, 16)[16]", "[@two(x)]", "[x, @two(x), u]", "@two(x)[0]", "rep(@two(x), 0)")
}

func TestP601Maps(t *testing.T) {
	isOf(t, "map(neg, xs)", array(api.I8, 2))
	isOf(t, "map(add, xs, [x, y])", array(api.I8, 2))
	isOf(t, "map(less, xs, xs)", array(api.Bool, 2))
	isOf(t, "map(count, us, bs)", array(api.U8, 3))
	isOf(t, "map(neg, [x])", array(api.I8, 1))
	isOf(t, "map(neg, map(three, rep(x, 16), rep(y, 16), rep(1i8, 16)))", array(api.I8, 16))
	wrongs(t, api.ErrCount, "@map(two, xs)", "@map(mix, xs, bs)", "@map(neg, xs, xs)", "@map(add, xs)", "@map(none, xs)", "@map(three, xs, xs)", "@map(two, x)", "@map(neg, u, u)", "map(neg, @two(x))", "map(two, xs, @two(x))",
		"@map(arr, xs)", "@map(arr, [x])", "@map(sum, xs)", "@map(pair, xs)", "@map(sum, x)", "@map(pair, u)", "@map(grow, xs, xs)", "@map(deep, xs, xs)", "@map(out, xs, xs)")
	wrongs(t, api.ErrType, "@map(neg, x)", "@map(neg, us)", "@map(neg, bs)", "@map(add, xs, x)", "@map(add, x, xs)", "@map(add, x, x)", "@map(add, xs, rep(x, 3))", "@map(add, rep(x, 3), xs)", "@map(add, xs, us)", "@map(count, us, xs)", "@map(count, bs, us)", "@map(three, xs, xs, us)", "@map(three, xs, xs, [x])", "map(neg, @-b)", "map(two, @-b)")
}

func TestP601Folds(t *testing.T) {
	isOf(t, "fold(add, x, xs)", kind(api.I8))
	isOf(t, "fold(add, 0i8, [x])", kind(api.I8))
	isOf(t, "fold(count, u, bs)", kind(api.U8))
	isOf(t, "fold(add, fold(add, x, xs), map(neg, rep(y, 16)))", kind(api.I8))
	wrongs(t, api.ErrCount, "@fold(neg, x, xs)", "@fold(none, x, xs)", "@fold(three, x, xs)", "@fold(mix, x, bs)", "@fold(two, u, u)", "fold(neg, @two(x), xs)", "fold(neg, x, @two(x))", "fold(add, @two(x), two(x))",
		"@fold(grow, xs, xs)", "@fold(deep, x, xs)", "@fold(out, x, xs)", "@fold(grow, u, b)")
	wrongs(t, api.ErrType, "@fold(less, x, xs)", "@fold(less, b, xs)", "@fold(add, u, xs)", "@fold(add, xs, xs)", "@fold(add, [x], xs)", "@fold(add, x, x)", "@fold(add, x, us)", "@fold(count, u, us)", "@fold(count, u, b)", "@fold(count, bs, bs)", "@fold(count, b, bs)", "fold(neg, @-b, xs)", "fold(neg, x, @-b)")
}

// TestP601Order: kids are asked from the left, each one whole; then the part.
func TestP601Order(t *testing.T) {
	wrongs(t, api.ErrType, "(@x + u) + two(x)", "(@-b) + xs[9]", "[x, @-b, xs[9]]", "add(@-b, two(x), x)", "if @-b then two(x) else xs[9]")
	wrongs(t, api.ErrCount, "@two(x) + (x + u)", "(@xs[9]) + -b", "[@xs[9], u, -b]", "add(@two(x), -b)", "if @xs[9] then -b else two(x)", "fold(add, x, two(@two(x)))", "two(neg(@tick(0, 0))) + -b")
}

// TestP601Later: of variables with one name the later one counts, an extra one most.
func TestP601Later(t *testing.T) {
	x := api.Exp{Form: api.EVar, Name: "x"}
	as := func(k int) []api.Var { return []api.Var{{Name: "x", T: kind(k)}} }
	for _, c := range []struct {
		n     api.Node
		extra []api.Var
		want  int
	}{
		{api.Node{Ins: as(api.I8)}, nil, api.I8}, {api.Node{Outs: as(api.I8)}, nil, api.I8}, {api.Node{Locals: as(api.I8)}, nil, api.I8}, {api.Node{}, as(api.I8), api.I8},
		{api.Node{Ins: as(api.U8), Outs: as(api.U16), Locals: as(api.I8)}, nil, api.I8}, {api.Node{Ins: as(api.U8), Outs: as(api.I8)}, nil, api.I8}, {api.Node{Ins: as(api.U8), Outs: as(api.U16), Locals: as(api.U32)}, as(api.I8), api.I8},
		{api.Node{}, append(as(api.U8), as(api.I8)...), api.I8}, {api.Node{Ins: append(as(api.U8), as(api.I16)...)}, nil, api.I16},
	} {
		if types, at, e := Of(api.Program{}, c.n, c.extra, x); !slices.Equal(types, []api.Type{kind(c.want)}) || at != 0 || e != api.OK {
			t.Errorf("%v: %v, error %d at %d", c, types, e, at)
		}
	}
	when := api.Exp{Form: api.EWhen, Name: "x", N: 1, Kids: []api.Exp{{Form: api.ELit, T: kind(api.U8)}}, At: 5}
	if types, _, e := Of(api.Program{}, api.Node{Ins: as(api.I8)}, as(api.Bool), when); !slices.Equal(types, []api.Type{kind(api.U8)}) || e != api.OK {
		t.Errorf("%v, error %d", types, e)
	}
	if _, at, e := Of(api.Program{}, api.Node{Ins: as(api.Bool)}, as(api.I8), when); at != 5 || e != api.ErrType {
		t.Errorf("error %d at %d", e, at)
	}
}

// TestP601Long: an array of more elements than Parse lets stand.
func TestP601Long(t *testing.T) {
	lit := api.Exp{Form: api.ELit, T: kind(api.I8)}
	for n, want := range map[int]api.Errno{15: api.OK, 16: api.OK, 17: api.ErrCount, 40: api.ErrCount} {
		e := api.Exp{Form: api.EArr, At: 7, Kids: slices.Repeat([]api.Exp{lit}, n)}
		types, at, got := Of(api.Program{}, api.Node{}, nil, e)
		if got != want || want == api.OK && (at != 0 || !slices.Equal(types, []api.Type{array(api.I8, n)})) || want != api.OK && (at != 7 || len(types) != 0) {
			t.Errorf("%d: %v, error %d at %d", n, types, got, at)
		}
		e.Kids[n-1].T = kind(api.U8)
		if _, at, got := Of(api.Program{}, api.Node{}, nil, e); got != api.ErrType || at != 7 {
			t.Errorf("%d: error %d at %d", n, got, at)
		}
	}
}

// TestP601Numbers: numbers that Parse can't answer.
func TestP601Numbers(t *testing.T) {
	for e, want := range map[*api.Exp]api.Errno{
		{Form: api.ETick, N: 0, M: -1}: api.ErrCount, {Form: api.ETick, N: -1, M: -2}: api.ErrCount, {Form: api.ETick, N: math.MaxInt}: api.ErrCount, {Form: api.ETick, N: math.MinInt, M: math.MinInt}: api.ErrCount, {Form: api.ETick, N: 2, M: math.MaxInt}: api.ErrCount,
		{Form: api.EIndex, N: -1, Kids: []api.Exp{{Form: api.EVar, Name: "xs"}}}: api.ErrCount, {Form: api.EIndex, N: math.MaxInt, Kids: []api.Exp{{Form: api.EVar, Name: "xs"}}}: api.ErrCount, {Form: api.ERep, N: -1, Kids: []api.Exp{{Form: api.EVar, Name: "x"}}}: api.ErrCount,
	} {
		p, n, _, _ := expOf(t, "x")
		e.At = 4
		if types, at, got := Of(p, n, nil, *e); len(types) != 0 || at != 4 || got != want {
			t.Errorf("%+v: %v, error %d at %d", *e, types, got, at)
		}
	}
}

func TestP602Variables(t *testing.T) {
	for text, want := range map[string]api.Errno{
		"": api.OK,
		"node f() returns (y: i8) let y = 1i8; tel":                               api.OK,
		"node f(x: i8^16) returns (y: i8^16) var l: i8^16; let y = x; l = x; tel": api.OK, "node f(x: i8^0) returns (y: i8) let y = x; tel": api.OK, "node f(x: i8) returns (y: i8^0) var l: bool^0; let y = x; l = true; tel": api.OK, "node f(x: i8^1) returns (y: i8) let @y = x; tel": api.ErrType, "node f(x: i8^1) returns (y: i8) let y = x[0]; tel": api.OK,
		"node f(@x: i8^17) returns (y: i8) let y = 1i8; tel": api.ErrCount, "node f(x: i8; @z: i8^17) returns (y: i8^17) let y = true; tel": api.ErrCount, "node f(x: i8) returns (@y: i8^17) let y = x; tel": api.ErrCount, "node f() returns (y, z: i8; @w: bool^999999999) let y = 1u8; z = 1i8; w = true; tel": api.ErrCount,
		"node f(x: i8) returns (y: i8) var l, m: i8; @n: u64^17; let y = x; l = x; m = x; n = true; tel": api.ErrCount, "node f(x: i8) returns (y: i8) var l: i8 when x; @n: u64^17; let y = x; l = x; n = true; tel": api.ErrCount,
		"node f(x: i8) returns (y: i8) var @l: i8 when x; let y = true; l = x; tel": api.ErrType, "node f(x: bool^2) returns (y: i8) var @l: i8 when x; let y = 1i8; l = y; tel": api.ErrType, "node f(x: bool; z: u8) returns (y: i8) var l: i8 when x; m, n: bool; @o: bool when x and not m and z; let y = 1i8; l = y; m = x; n = x; o = x; tel": api.ErrType,
		"node f(x: bool) returns (y: bool) var l: i8 when x and not m; m: bool when y; let y = x; l = 1i8; m = x; tel": api.OK, "node f(x: bool^0) returns (y: i8) var l: i8 when x; let y = 1i8; l = y; tel": api.OK, "node f(x: bool) returns (y: i8) var @k, l: i8 when not y; let y = 1i8; k = y; l = y; tel": api.ErrType,
		"node g(x: i8) returns (y: i8) let y = x; tel node f(@x: i8^17) returns (y: i8) let y = 1i8; tel": api.ErrCount, "node g(x: bool) returns (y: i8) let y = 1i8; tel node f(x: i8) returns (y: i8) var @l: bool when x; let y = x; l = true; tel": api.ErrType,
		"node g(x: i8) returns (y: i8) let @y = true; tel node f(x: i8^17) returns (y: i8) let y = 1i8; tel": api.ErrType,
	} {
		holds(t, want, text)
	}
}

func TestP602Equations(t *testing.T) {
	const head = "node f(x: i8; u: u8; b: bool; xs: i8^2) returns (y: i8; z: bool; w: u8) var a: i8^2; let "
	for items, want := range map[string]api.Errno{
		"y = x; z = b; w = u; a = xs;": api.OK, "(z, w) = mix(x, b); y = x; a = arr(xs);": api.OK, "(z, w) = reset(mix(x, b), b); y = neg(x); a = [x, y];": api.OK,
		"y = x; @z = x; w = x; a = xs;": api.ErrType, "y = x; z = b; w = u; @a = x;": api.ErrType, "@y = xs; z = b; w = u; a = xs;": api.ErrType, "y = x; z = b; w = u; @a = [x];": api.ErrType, "y = x; z = b; w = u; @a = [u, u];": api.ErrType,
		"@(w, z) = mix(x, b); y = x; a = x;": api.ErrType, "@(z, y) = mix(x, b); w = b; a = xs;": api.ErrType, "@(y, w) = mix(x, b); z = b; a = xs;": api.ErrType, "@(y, z) = two(x); w = u; a = xs;": api.ErrType, "@(y, z, w) = reset(mix(x, b), b); a = xs;": api.ErrCount,
		"@(y, z) = x; w = u; a = xs;": api.ErrCount, "@y = two(x); z = b; w = u; a = xs;": api.ErrCount, "@z = mix(x, b); y = x; w = u; a = xs;": api.ErrCount, "@(z, w) = neg(x); y = x; a = xs;": api.ErrCount, "@(y, z) = xs; w = u; a = xs;": api.ErrCount, "@(y, z, w) = mix(x, b); a = xs;": api.ErrCount,
		"y = @-b; z = b; w = u; a = xs;": api.ErrType, "(y, z) = @-b; w = u; a = xs;": api.ErrType, "(y, z) = @xs[2]; w = u; a = xs;": api.ErrCount, "(z, w) = mix(@-b, b); y = x; a = xs;": api.ErrType, "y = x + @two(x); z = x; w = u; a = xs;": api.ErrCount, "z = b; w = u; a = xs; y = x + (@x + u);": api.ErrType,
	} {
		holds(t, want, callable+head+items+" tel")
	}
}

func TestP602States(t *testing.T) {
	const head = "node f(x: i8; b: bool; bs: bool^2) returns (y: i8) let automaton "
	for states, want := range map[string]api.Errno{
		"state A do y = x; end": api.OK, "state A unless b then A; unless x < y continue A; do y = x; until bs[0] then A; until true then A; end": api.OK,
		"state A unless @x then A; do y = b; end": api.ErrType, "state A unless b then A; unless @bs then A; do y = x; until x then A; end": api.ErrType, "state A unless @x + b then A; do y = x; end": api.ErrType, "state A unless not (@x + b) then A; do y = x; end": api.ErrType, "state A unless @bs[2] then A; do y = x; end": api.ErrCount,
		"state A do y = x; until @x then A; end": api.ErrType, "state A do y = x; until b then A; until @bs then A; state B do y = b; end": api.ErrType, "state A do @y = b; until x then A; end": api.ErrType, "state A do y = x; until b and (@b and x) then A; end": api.ErrType, "state A do y = x; until @[b][1] then A; end": api.ErrCount,
		"state A var m: bool; do y = x; m = b; until m then A; end": api.OK, "state A var m: i8; do y = m; m = x; until @m then A; end": api.ErrType, "state A var m: i8; do y = m; @m = b; end": api.ErrType, "state A var m: bool; do @y = m; m = x; end": api.ErrType,
		"state A var m: i8; do y = m; m = x; state B var m: bool; do y = x; m = b; until m then A; end": api.OK, "state A var m: i8; do y = m; m = x; state B var m: bool; do @y = m; m = b; end": api.ErrType,
		"state A unless x then A; var m: i8; @n: i8^17; do y = x; m = b; n = b; end": api.ErrCount, "state A unless x then A; var m: i8 when x; @n: i8^17; do y = x; m = b; n = b; end": api.ErrCount, "state A unless x then A; var m: bool; @n: i8 when b and x; do y = x; m = x; n = x; end": api.ErrType, "state A var m: bool^16; @n: i8 when m; do y = x; m = rep(b, 16); n = x; end": api.ErrType, "state A var m: bool; n: i8 when not m and b; do y = x; m = b; n = x; end": api.OK,
		"state A do y = x; state B unless @x then A; do y = b; end": api.ErrType, "state A do y = x; state B var @n: i8^17; do y = b; n = b; end": api.ErrCount, "state A do y = x; state B do @y = b; end": api.ErrType, "state A do y = x; state B do y = x; until @x then A; end": api.ErrType, "state A do @y = b; state B var n: i8^17; do y = b; n = b; end": api.ErrType,
		"state A var m: bool; do m = b; automaton state B var n: i8 when m; do y = n; n = x; until m then B; end end": api.OK, "state A var m: i8; do m = x; automaton state B var @n: i8 when m; do y = n; n = x; end end": api.ErrType, "state A var m: bool; do m = b; automaton state B do @y = m; end until x then A; end": api.ErrType,
		"state A var m: bool; do m = b; automaton state B do y = x; until m then B; state C unless @x then B; do y = m; end until x then A; end": api.ErrType, "state A do automaton state B var m: bool; do y = x; m = b; end until @x then A; end": api.ErrType, "state A do automaton state B var m: bool; do y = x; m = b; state C var m: i8; do y = m; m = y; end end": api.OK,
	} {
		holds(t, want, head+states+" tel")
	}
	holds(t, api.ErrType, "node f(x: i8; b: bool) returns (y, z: i8) let automaton state A do y = x; end @z = b; tel")
	holds(t, api.ErrType, "node f(x: i8; b: bool) returns (y, z: i8) let automaton state A do @y = b; end z = b; tel")
	holds(t, api.ErrType, "node f(x: i8; b: bool) returns (y, z: i8) var @l: i8 when x; let automaton state A do y = b; end z = x; l = x; tel")
}

// TestP602Apart: what is there in one node, or in one state, is not there in another one.
func TestP602Apart(t *testing.T) {
	holds(t, api.OK, "node f(x: i8) returns (y: i8) let y = x; tel node g(x: bool) returns (y: bool) let y = not x; tel node h(y: u8^2) returns (x: u8) let x = y[1]; tel")
	holds(t, api.OK, "node f(x: i8) returns (y: i8) let y = x; tel node g(f: bool; g: i8) returns (y: i8) var h: bool; let y = f(g); h = f; tel")
	holds(t, api.ErrType, "node f(x: i8) returns (y: i8) let y = x; tel node g(x: bool) returns (y: i8) let y = @f(x); tel")
	holds(t, api.ErrCount, "node f(x: i8) returns (y: i8) let y = x; tel node g(x: i8) returns (y: i8) let y = @f(x, x); tel node h(x: i8^17) returns (y: i8) let y = 1i8; tel")
}

// TestP602Long: programs as great as may be.
func TestP602Long(t *testing.T) {
	var s strings.Builder
	for n := range api.MaxNodes - 1 {
		s.WriteString("node n" + strconv.Itoa(n) + "(x: i8) returns (y: i8) let y = ")
		for k := range n {
			s.WriteString("n" + strconv.Itoa(k) + "(x) -> ")
		}
		s.WriteString("x; tel\n")
	}
	holds(t, api.OK, s.String()+"node f(x: i8) returns (y: i8) let y = n58(x); tel")
	holds(t, api.ErrType, s.String()+"node f(x: bool) returns (y: i8) let y = "+strings.Repeat("1i8 + (", 30)+"@n0(x)"+strings.Repeat(")", 30)+"; tel")
	const head = "node f(x: i8; b: bool) returns (y: i8) let "
	holds(t, api.OK, head+"y = x"+strings.Repeat(" + x", 9900)+"; tel")
	holds(t, api.ErrType, head+"y = @x"+strings.Repeat(" + x", 9900)+" + b; tel")
	holds(t, api.ErrType, head+"y = x"+strings.Repeat(" -> x", 9900)+" -> @x -> b; tel")
	holds(t, api.ErrType, head+"y = @x"+strings.Repeat("[1]", 6000)+"; tel")
	deep, end := strings.Repeat("automaton state A do ", api.MaxDeep-1), strings.Repeat(" end", api.MaxDeep-1)
	holds(t, api.OK, head+deep+"y = x;"+end+" tel")
	holds(t, api.ErrType, head+deep+"@y = b;"+end+" tel")
	var most strings.Builder
	for i := range api.MaxVars {
		most.WriteString("v" + strconv.Itoa(i) + ", ")
	}
	holds(t, api.ErrType, "node f("+most.String()[:most.Len()-2]+": i8^16) returns (y: bool) let @y = v199[15] + v0[15]; tel")
}
