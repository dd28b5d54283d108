package bv

import (
	"math/big"
	"testing"

	"metronome/api"
)

// The oracle works with numbers of any length, written from the promises alone: it shares no code with the package.

func power(bits int) *big.Int { return new(big.Int).Lsh(big.NewInt(1), uint(bits)) }

func bitsOf(kind int) int {
	return [...]int{api.Bool: 1, api.I8: 8, api.I16: 16, api.I32: 32, api.I64: 64, api.U8: 8, api.U16: 16, api.U32: 32, api.U64: 64}[kind]
}

func signed(kind int) bool { return kind >= api.I8 && kind <= api.I64 }

// number answers the number that a value means.
func number(kind, n int) *big.Int {
	x := big.NewInt(int64(n))
	if kind == api.U64 && n < 0 {
		x.Add(x, power(64))
	}
	return x
}

// stored answers the int as which the number stands, cut to the kind's bits.
func stored(kind int, x *big.Int) int {
	bits := bitsOf(kind)
	low := new(big.Int).Mod(x, power(bits))
	if (signed(kind) || kind == api.U64) && low.Bit(bits-1) == 1 {
		low.Sub(low, power(bits))
	}
	return int(low.Int64())
}

func truth(holds bool) *big.Int {
	if holds {
		return big.NewInt(1)
	}
	return new(big.Int)
}

func shifted(op, kind int, x, y *big.Int) *big.Int {
	places := new(big.Int).Mod(y, power(bitsOf(kind)))
	far := places.Cmp(big.NewInt(int64(bitsOf(kind)))) >= 0
	switch {
	case far && op == api.OpShr && x.Sign() < 0:
		return big.NewInt(-1)
	case far:
		return new(big.Int)
	case op == api.OpShl:
		return new(big.Int).Lsh(x, uint(places.Int64()))
	}
	return new(big.Int).Rsh(x, uint(places.Int64()))
}

func arithmetic(op, kind int, x, y *big.Int) *big.Int {
	z := new(big.Int)
	switch op {
	case api.OpAdd:
		return z.Add(x, y)
	case api.OpSub:
		return z.Sub(x, y)
	case api.OpMul:
		return z.Mul(x, y)
	case api.OpAnd:
		return z.And(x, y)
	case api.OpOr:
		return z.Or(x, y)
	case api.OpXor:
		return z.Xor(x, y)
	case api.OpImp:
		return truth(x.Sign() == 0 || y.Sign() != 0)
	case api.OpShl, api.OpShr:
		return shifted(op, kind, x, y)
	}
	if y.Sign() == 0 {
		return z
	}
	if op == api.OpDiv {
		return z.Quo(x, y)
	}
	return z.Rem(x, y)
}

func compared(op int, x, y *big.Int) *big.Int {
	c := x.Cmp(y)
	return truth([...]bool{api.OpEq: c == 0, api.OpNe: c != 0, api.OpLt: c < 0, api.OpLe: c <= 0, api.OpGt: c > 0, api.OpGe: c >= 0}[op])
}

func defined(op, kind int) bool {
	switch op {
	case api.OpAnd, api.OpOr, api.OpXor, api.OpEq, api.OpNe:
		return true
	case api.OpImp:
		return kind == api.Bool
	}
	return op >= api.OpAdd && op <= api.OpGe && kind != api.Bool
}

func checkBin(t *testing.T, op, kind, a, b int) {
	got, k, ok := Bin(op, kind, a, b)
	want, to := 0, 0
	x, y := number(kind, a), number(kind, b)
	switch {
	case !defined(op, kind):
	case op >= api.OpEq:
		want, to = stored(api.Bool, compared(op, x, y)), api.Bool
	default:
		want, to = stored(kind, arithmetic(op, kind, x, y)), kind
	}
	if got != want || k != to || ok != (to != 0) {
		t.Fatalf("Bin(%d, %d, %d, %d) = %d, %d, %v; the oracle tells %d, %d", op, kind, a, b, got, k, ok, want, to)
	}
}

// edges answers values of a kind: those near 0, near the least and the greatest one, near the width, and powers of 2.
func edges(kind int) []int {
	var out []int
	seen := map[int]bool{}
	put := func(x *big.Int) {
		if n := stored(kind, x); !seen[n] {
			seen[n] = true
			out = append(out, n)
		}
	}
	for bits := 0; bits <= bitsOf(kind); bits += 1 + bits/8*3 {
		for near := int64(-2); near <= 2; near++ {
			put(new(big.Int).Add(power(bits), big.NewInt(near)))
			put(new(big.Int).Sub(big.NewInt(near), power(bits)))
		}
	}
	for _, n := range []int64{7, 8, 9, 15, 16, 17, 31, 32, 33, 63, 64, 65, 100} {
		put(big.NewInt(n))
	}
	return out
}

func TestP103Oracle(t *testing.T) {
	for _, kind := range kinds() {
		values := edges(kind)
		for op := 0; op <= api.OpGe+1; op++ {
			for _, a := range values {
				for _, b := range values {
					checkBin(t, op, kind, a, b)
				}
			}
		}
	}
}

func TestP103AllBytes(t *testing.T) {
	for _, kind := range []int{api.I8, api.U8} {
		for op := api.OpAdd; op <= api.OpGe; op++ {
			for a := range 256 {
				for b := range 256 {
					checkBin(t, op, kind, stored(kind, big.NewInt(int64(a))), stored(kind, big.NewInt(int64(b))))
				}
			}
		}
	}
}

func TestP101Oracle(t *testing.T) {
	for _, kind := range kinds() {
		for _, from := range kinds() {
			for _, n := range edges(from) {
				want := stored(kind, big.NewInt(int64(n)))
				if got := Wrap(kind, n); got != want {
					t.Errorf("Wrap(%d, %d) = %d; the oracle tells %d", kind, n, got, want)
				}
				if Is(kind, n) != (want == n) {
					t.Errorf("Is(%d, %d)", kind, n)
				}
			}
		}
	}
}

func TestP102Oracle(t *testing.T) {
	for _, kind := range kinds() {
		for _, a := range edges(kind) {
			x := number(kind, a)
			if got, ok := Un(api.OpNot, kind, a); got != stored(kind, new(big.Int).Not(x)) || !ok {
				t.Errorf("Un(OpNot, %d, %d) = %d, %v", kind, a, got, ok)
			}
			if got, ok := Un(api.OpNeg, kind, a); kind != api.Bool && (got != stored(kind, new(big.Int).Neg(x)) || !ok) {
				t.Errorf("Un(OpNeg, %d, %d) = %d, %v", kind, a, got, ok)
			}
		}
	}
}

func TestP104Oracle(t *testing.T) {
	for _, from := range kinds() {
		for _, to := range kinds() {
			for _, a := range edges(from) {
				x := number(from, a)
				if to == api.Bool {
					x = truth(x.Sign() != 0)
				}
				if got, ok := Cast(from, to, a); got != stored(to, x) || !ok {
					t.Errorf("Cast(%d, %d, %d) = %d, %v; the oracle tells %d", from, to, a, got, ok, stored(to, x))
				}
			}
		}
	}
}
