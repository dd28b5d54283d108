package bv

import (
	"math"
	"testing"

	"metronome/api"
)

var noKinds = []int{0, -1, 10, 11, 256 + api.I8, math.MinInt, math.MaxInt}

func kinds() []int {
	return []int{api.Bool, api.I8, api.I16, api.I32, api.I64, api.U8, api.U16, api.U32, api.U64}
}

// P101

func TestP101Wrap(t *testing.T) {
	for _, x := range []struct{ kind, n, want int }{
		{api.Bool, 0, 0}, {api.Bool, 1, 1}, {api.Bool, 2, 0}, {api.Bool, 3, 1}, {api.Bool, -1, 1}, {api.Bool, -2, 0},
		{api.I8, 127, 127}, {api.I8, 128, -128}, {api.I8, 200, -56}, {api.I8, -128, -128}, {api.I8, -129, 127}, {api.I8, 256, 0},
		{api.I16, 1<<15 - 1, 1<<15 - 1}, {api.I16, 1 << 15, -1 << 15}, {api.I16, -1<<15 - 1, 1<<15 - 1},
		{api.I32, 1<<31 - 1, 1<<31 - 1}, {api.I32, 1 << 31, -1 << 31}, {api.I32, -1<<31 - 1, 1<<31 - 1},
		{api.I64, math.MinInt, math.MinInt}, {api.I64, math.MaxInt, math.MaxInt},
		{api.U8, -1, 255}, {api.U8, 255, 255}, {api.U8, 256, 0}, {api.U8, -256, 0},
		{api.U16, -1, 1<<16 - 1}, {api.U16, 1 << 16, 0},
		{api.U32, -1, 1<<32 - 1}, {api.U32, 1 << 32, 0}, {api.U32, math.MinInt, 0},
		{api.U64, -1, -1}, {api.U64, math.MinInt, math.MinInt}, {api.U64, math.MaxInt, math.MaxInt},
	} {
		if got := Wrap(x.kind, x.n); got != x.want {
			t.Errorf("Wrap(%d, %d) = %d, not %d", x.kind, x.n, got, x.want)
		}
	}
	for _, kind := range noKinds {
		if got := Wrap(kind, 5); got != 0 {
			t.Errorf("Wrap(%d, 5) = %d of no kind", kind, got)
		}
	}
}

func TestP101Is(t *testing.T) {
	for _, x := range []struct{ kind, least, most int }{
		{api.Bool, 0, 1},
		{api.I8, -128, 127}, {api.I16, -1 << 15, 1<<15 - 1}, {api.I32, -1 << 31, 1<<31 - 1}, {api.I64, math.MinInt, math.MaxInt},
		{api.U8, 0, 255}, {api.U16, 0, 1<<16 - 1}, {api.U32, 0, 1<<32 - 1}, {api.U64, math.MinInt, math.MaxInt},
	} {
		if !Is(x.kind, 0) || !Is(x.kind, x.least) || !Is(x.kind, x.most) {
			t.Errorf("Is(%d): a value is refused", x.kind)
		}
		if x.least != math.MinInt && (Is(x.kind, x.least-1) || Is(x.kind, x.most+1) || Is(x.kind, math.MinInt) || Is(x.kind, math.MaxInt)) {
			t.Errorf("Is(%d): a number beyond its values is taken", x.kind)
		}
	}
	for _, kind := range noKinds {
		if Is(kind, 0) || Is(kind, 1) || Is(kind, -1) {
			t.Errorf("Is(%d) takes a value of no kind", kind)
		}
	}
}

func TestP101WidthAndZero(t *testing.T) {
	widths := []int{1, 8, 16, 32, 64, 8, 16, 32, 64}
	for i, kind := range kinds() {
		if got := Width(kind); got != widths[i] {
			t.Errorf("Width(%d) = %d, not %d", kind, got, widths[i])
		}
		if Zero(kind) != 0 {
			t.Errorf("Zero(%d) is not 0", kind)
		}
	}
	for _, kind := range noKinds {
		if Width(kind) != 0 || Zero(kind) != 0 {
			t.Errorf("Width or Zero of no kind %d is not 0", kind)
		}
	}
}

// P102

func TestP102Un(t *testing.T) {
	for _, x := range []struct{ op, kind, a, want int }{
		{api.OpNot, api.Bool, 0, 1}, {api.OpNot, api.Bool, 1, 0},
		{api.OpNot, api.I8, 0, -1}, {api.OpNot, api.I8, 127, -128}, {api.OpNot, api.U8, 0, 255}, {api.OpNot, api.U8, 170, 85},
		{api.OpNot, api.U16, 1, 1<<16 - 2}, {api.OpNot, api.U32, 0, 1<<32 - 1}, {api.OpNot, api.U64, 0, -1}, {api.OpNot, api.I64, math.MinInt, math.MaxInt},
		{api.OpNeg, api.I8, 5, -5}, {api.OpNeg, api.I8, -128, -128}, {api.OpNeg, api.I16, -1 << 15, -1 << 15}, {api.OpNeg, api.I32, -1 << 31, -1 << 31}, {api.OpNeg, api.I64, math.MinInt, math.MinInt},
		{api.OpNeg, api.U8, 0, 0}, {api.OpNeg, api.U8, 1, 255}, {api.OpNeg, api.U32, 1, 1<<32 - 1}, {api.OpNeg, api.U64, 1, -1}, {api.OpNeg, api.U64, -1, 1},
	} {
		if got, ok := Un(x.op, x.kind, x.a); got != x.want || !ok {
			t.Errorf("Un(%d, %d, %d) = %d, %v, not %d", x.op, x.kind, x.a, got, ok, x.want)
		}
	}
}

func TestP102Refused(t *testing.T) {
	refused := func(op, kind, a int) {
		if got, ok := Un(op, kind, a); got != 0 || ok {
			t.Errorf("Un(%d, %d, %d) = %d, %v", op, kind, a, got, ok)
		}
	}
	refused(api.OpNeg, api.Bool, 0)
	refused(api.OpNeg, api.Bool, 1)
	for _, kind := range kinds() {
		for _, op := range []int{math.MinInt, -1, 0, api.OpAdd, api.OpXor, api.OpGe, api.OpGe + 1, math.MaxInt} {
			refused(op, kind, 1)
		}
	}
	for _, kind := range noKinds {
		refused(api.OpNot, kind, 0)
		refused(api.OpNeg, kind, 0)
	}
	for _, x := range beyond() {
		refused(api.OpNot, x.kind, x.n)
		refused(api.OpNeg, x.kind, x.n)
	}
}

// P103

func TestP103Bin(t *testing.T) {
	for _, x := range []struct{ op, kind, a, b, want int }{
		{api.OpAdd, api.I8, 127, 1, -128}, {api.OpAdd, api.U8, 255, 1, 0}, {api.OpAdd, api.I64, math.MaxInt, 1, math.MinInt}, {api.OpAdd, api.U64, -1, 1, 0},
		{api.OpSub, api.I8, -128, 1, 127}, {api.OpSub, api.U16, 0, 1, 1<<16 - 1}, {api.OpSub, api.U64, 0, 1, -1},
		{api.OpMul, api.I16, 300, 300, 24464}, {api.OpMul, api.U32, 1<<32 - 1, 1<<32 - 1, 1}, {api.OpMul, api.I64, math.MinInt, -1, math.MinInt},
		{api.OpDiv, api.I8, -128, -1, -128}, {api.OpDiv, api.I16, -1 << 15, -1, -1 << 15}, {api.OpDiv, api.I32, -1 << 31, -1, -1 << 31}, {api.OpDiv, api.I64, math.MinInt, -1, math.MinInt},
		{api.OpMod, api.I8, -128, -1, 0}, {api.OpMod, api.I16, -1 << 15, -1, 0}, {api.OpMod, api.I32, -1 << 31, -1, 0}, {api.OpMod, api.I64, math.MinInt, -1, 0},
		{api.OpDiv, api.I8, -7, 2, -3}, {api.OpDiv, api.I8, 7, -2, -3}, {api.OpMod, api.I8, -7, 2, -1}, {api.OpMod, api.I8, 7, -2, 1}, {api.OpMod, api.I8, -7, -2, -1},
		{api.OpDiv, api.U64, -1, 2, math.MaxInt}, {api.OpMod, api.U64, -1, 10, 5}, {api.OpDiv, api.U64, 5, -1, 0}, {api.OpMod, api.U64, 5, -1, 5}, {api.OpDiv, api.U64, math.MinInt, -1, 0}, {api.OpMod, api.U64, math.MinInt, -1, math.MinInt},
		{api.OpAnd, api.Bool, 1, 1, 1}, {api.OpOr, api.Bool, 0, 1, 1}, {api.OpXor, api.Bool, 1, 1, 0}, {api.OpAnd, api.I8, -1, 5, 5}, {api.OpOr, api.U8, 128, 1, 129}, {api.OpXor, api.I8, -1, 1, -2}, {api.OpXor, api.U64, -1, 1, -2},
		{api.OpImp, api.Bool, 0, 0, 1}, {api.OpImp, api.Bool, 0, 1, 1}, {api.OpImp, api.Bool, 1, 0, 0}, {api.OpImp, api.Bool, 1, 1, 1},
		{api.OpShl, api.U8, 1, 7, 128}, {api.OpShl, api.U8, 1, 8, 0}, {api.OpShl, api.U8, 1, 9, 0}, {api.OpShl, api.U8, 255, 255, 0}, {api.OpShl, api.I8, 1, 7, -128}, {api.OpShl, api.I8, 3, -1, 0}, {api.OpShl, api.I64, 1, 63, math.MinInt}, {api.OpShl, api.I64, 1, 64, 0}, {api.OpShl, api.U64, -1, math.MinInt, 0},
		{api.OpShr, api.I8, -8, 1, -4}, {api.OpShr, api.I8, -8, 7, -1}, {api.OpShr, api.I8, -8, 8, -1}, {api.OpShr, api.I8, 127, 8, 0}, {api.OpShr, api.I8, -1, -128, -1}, {api.OpShr, api.I8, 1, -1, 0}, {api.OpShr, api.U8, 255, 7, 1}, {api.OpShr, api.U8, 255, 8, 0},
		{api.OpShr, api.I64, -1, 64, -1}, {api.OpShr, api.I64, -2, -1, -1}, {api.OpShr, api.I64, 2, -1, 0}, {api.OpShr, api.U64, -1, 1, math.MaxInt}, {api.OpShr, api.U64, -1, 63, 1}, {api.OpShr, api.U64, -1, 64, 0}, {api.OpShr, api.U64, -1, -1, 0},
	} {
		if got, kind, ok := Bin(x.op, x.kind, x.a, x.b); got != x.want || kind != x.kind || !ok {
			t.Errorf("Bin(%d, %d, %d, %d) = %d, %d, %v, not %d", x.op, x.kind, x.a, x.b, got, kind, ok, x.want)
		}
	}
}

func TestP103DividedByNought(t *testing.T) {
	for _, kind := range kinds()[1:] {
		for _, a := range edges(kind) {
			for _, op := range []int{api.OpDiv, api.OpMod} {
				if got, k, ok := Bin(op, kind, a, 0); got != 0 || k != kind || !ok {
					t.Errorf("Bin(%d, %d, %d, 0) = %d, %d, %v", op, kind, a, got, k, ok)
				}
			}
		}
	}
}

func TestP103Compared(t *testing.T) {
	ops := []int{api.OpEq, api.OpNe, api.OpLt, api.OpLe, api.OpGt, api.OpGe}
	for _, x := range []struct {
		kind, a, b int
		want       [6]int
	}{
		{api.I8, -1, 0, [6]int{0, 1, 1, 1, 0, 0}}, {api.I8, 3, 3, [6]int{1, 0, 0, 1, 0, 1}}, {api.U8, 255, 0, [6]int{0, 1, 0, 0, 1, 1}},
		{api.I64, math.MinInt, math.MaxInt, [6]int{0, 1, 1, 1, 0, 0}}, {api.I64, -1, 0, [6]int{0, 1, 1, 1, 0, 0}},
		{api.U64, -1, 0, [6]int{0, 1, 0, 0, 1, 1}}, {api.U64, math.MaxInt, math.MinInt, [6]int{0, 1, 1, 1, 0, 0}}, {api.U64, -1, -1, [6]int{1, 0, 0, 1, 0, 1}},
	} {
		for i, op := range ops {
			if got, kind, ok := Bin(op, x.kind, x.a, x.b); got != x.want[i] || kind != api.Bool || !ok {
				t.Errorf("Bin(%d, %d, %d, %d) = %d, %d, %v, not %d", op, x.kind, x.a, x.b, got, kind, ok, x.want[i])
			}
		}
	}
	for _, x := range [][3]int{{0, 0, 1}, {0, 1, 0}, {1, 0, 0}, {1, 1, 1}} {
		eq, k, ok := Bin(api.OpEq, api.Bool, x[0], x[1])
		ne, l, fine := Bin(api.OpNe, api.Bool, x[0], x[1])
		if eq != x[2] || ne != 1-x[2] || k != api.Bool || l != api.Bool || !ok || !fine {
			t.Errorf("OpEq, OpNe of Bool %d, %d: %d, %d", x[0], x[1], eq, ne)
		}
	}
}

func TestP103Refused(t *testing.T) {
	refused := func(op, kind, a, b int) {
		if got, k, ok := Bin(op, kind, a, b); got != 0 || k != 0 || ok {
			t.Errorf("Bin(%d, %d, %d, %d) = %d, %d, %v", op, kind, a, b, got, k, ok)
		}
	}
	for _, op := range []int{api.OpAdd, api.OpSub, api.OpMul, api.OpDiv, api.OpMod, api.OpShl, api.OpShr, api.OpLt, api.OpLe, api.OpGt, api.OpGe} {
		refused(op, api.Bool, 1, 1)
		refused(op, api.Bool, 0, 0)
	}
	for _, kind := range kinds() {
		if kind != api.Bool {
			refused(api.OpImp, kind, 1, 1)
		}
		for _, op := range []int{math.MinInt, -1, 0, api.OpNot, api.OpNeg, api.OpGe + 1, 99, math.MaxInt} {
			refused(op, kind, 1, 1)
		}
	}
	for op := api.OpNot; op <= api.OpGe; op++ {
		for _, kind := range noKinds {
			refused(op, kind, 0, 0)
		}
		for _, x := range beyond() {
			refused(op, x.kind, x.n, 0)
			refused(op, x.kind, 0, x.n)
			refused(op, x.kind, x.n, x.n)
		}
	}
}

// P104

func TestP104Cast(t *testing.T) {
	for _, x := range []struct{ from, to, a, want int }{
		{api.Bool, api.Bool, 1, 1}, {api.Bool, api.I8, 1, 1}, {api.Bool, api.U64, 1, 1}, {api.Bool, api.I32, 0, 0},
		{api.I8, api.Bool, 0, 0}, {api.I8, api.Bool, -128, 1}, {api.I8, api.Bool, 2, 1}, {api.U64, api.Bool, -5, 1}, {api.U64, api.Bool, math.MinInt, 1},
		{api.I8, api.I16, -1, -1}, {api.I8, api.U16, -1, 1<<16 - 1}, {api.I8, api.U64, -1, -1}, {api.I32, api.U64, -1, -1}, {api.I32, api.I64, -1 << 31, -1 << 31},
		{api.U8, api.I16, 255, 255}, {api.U32, api.I64, 1<<32 - 1, 1<<32 - 1}, {api.U32, api.U64, 1<<32 - 1, 1<<32 - 1},
		{api.I64, api.I8, 300, 44}, {api.I16, api.I8, 128, -128}, {api.U64, api.U8, -1, 255}, {api.U64, api.I32, 1 << 31, -1 << 31}, {api.I32, api.U16, -1 << 31, 0},
		{api.U8, api.I8, 255, -1}, {api.I8, api.U8, -1, 255}, {api.U64, api.I64, -1, -1}, {api.I64, api.U64, math.MinInt, math.MinInt}, {api.U16, api.U16, 65535, 65535},
	} {
		if got, ok := Cast(x.from, x.to, x.a); got != x.want || !ok {
			t.Errorf("Cast(%d, %d, %d) = %d, %v, not %d", x.from, x.to, x.a, got, ok, x.want)
		}
	}
}

func TestP104Refused(t *testing.T) {
	refused := func(from, to, a int) {
		if got, ok := Cast(from, to, a); got != 0 || ok {
			t.Errorf("Cast(%d, %d, %d) = %d, %v", from, to, a, got, ok)
		}
	}
	for _, kind := range kinds() {
		for _, none := range noKinds {
			refused(kind, none, 0)
			refused(kind, none, 1)
			refused(none, kind, 0)
			refused(none, none, 0)
		}
		for _, x := range beyond() {
			refused(x.kind, kind, x.n)
		}
	}
}

// beyond answers numbers that are no values of the kind beside them.
func beyond() []struct{ kind, n int } {
	return []struct{ kind, n int }{
		{api.Bool, -1}, {api.Bool, 2}, {api.I8, 128}, {api.I8, -129}, {api.I16, 1 << 15}, {api.I16, -1<<15 - 1}, {api.I32, 1 << 31}, {api.I32, -1<<31 - 1},
		{api.U8, -1}, {api.U8, 256}, {api.U16, -1}, {api.U16, 1 << 16}, {api.U32, -1}, {api.U32, 1 << 32}, {api.I8, math.MaxInt}, {api.U32, math.MinInt},
	}
}
