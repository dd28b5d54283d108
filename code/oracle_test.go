package code_test

import (
	"bytes"
	"math"
	"math/big"
	"slices"

	"metronome/api"
	"metronome/code"
)

// least and most are the values at the ends of each kind.
func least() [api.U64 + 1]int {
	return [...]int{api.Bool: 0, api.I8: math.MinInt8, api.I16: math.MinInt16, api.I32: math.MinInt32, api.I64: math.MinInt64, api.U8: 0, api.U16: 0, api.U32: 0, api.U64: math.MinInt}
}

func most() [api.U64 + 1]int {
	return [...]int{api.Bool: 1, api.I8: math.MaxInt8, api.I16: math.MaxInt16, api.I32: math.MaxInt32, api.I64: math.MaxInt64, api.U8: math.MaxUint8, api.U16: math.MaxUint16, api.U32: math.MaxUint32, api.U64: math.MaxInt}
}

func isValue(kind, n int) bool {
	return kind >= api.Bool && kind <= api.U64 && n >= least()[kind] && n <= most()[kind]
}

// known tells of an operation of a kind how many values it takes, and the kind of what it answers; 0, if there is no such operation.
func known(op, kind int) (count, to int) {
	switch op {
	case api.OpNot:
		return 1, kind
	case api.OpAnd, api.OpOr, api.OpXor:
		return 2, kind
	case api.OpEq, api.OpNe:
		return 2, api.Bool
	}
	if kind == api.Bool {
		if op == api.OpImp {
			return 2, kind
		}
		return 0, 0
	}
	switch op {
	case api.OpNeg:
		return 1, kind
	case api.OpAdd, api.OpSub, api.OpMul, api.OpDiv, api.OpMod, api.OpShl, api.OpShr:
		return 2, kind
	case api.OpLt, api.OpLe, api.OpGt, api.OpGe:
		return 2, api.Bool
	}
	return 0, 0
}

// oracle goes along all ways from the first instruction on, each by itself.
type oracle struct {
	c     api.Code
	found map[int][]int // of each instruction: the stack with which it was found first
	high  int           // the highest stack
}

// tops takes values of a kind off the stack.
func tops(stack []int, kinds ...int) ([]int, bool) {
	left := len(stack) - len(kinds)
	if left < 0 || !slices.Equal(stack[left:], kinds) {
		return nil, false
	}
	return stack[:left:left], true
}

// after answers the stack behind an instruction.
func (o *oracle) after(in api.Ins, stack []int) (next []int, ok bool) {
	slot := func(from int) bool { return in.N >= from && in.N < len(o.c.Kinds) && in.K == 0 }
	kind := isValue(in.K, 0)
	switch in.Op {
	case api.IPush:
		return append(slices.Clone(stack), in.K), isValue(in.K, in.N)
	case api.ILoad:
		if slot(0) {
			return append(slices.Clone(stack), o.c.Kinds[in.N]), true
		}
	case api.ISave:
		if slot(o.c.Ins) {
			return tops(stack, o.c.Kinds[in.N])
		}
	case api.IUn, api.IBin:
		count, to := known(in.N, in.K)
		next, ok = tops(stack, slices.Repeat([]int{in.K}, count)...)
		return append(next, to), ok && kind && count == in.Op-api.IUn+1
	case api.ICast:
		next, ok = tops(stack, in.N)
		return append(next, in.K), ok && kind
	case api.IJump:
		return stack, in.K == 0
	case api.IFalse:
		next, ok = tops(stack, api.Bool)
		return next, ok && in.K == 0
	case api.IEnd:
		return nil, len(stack) == 0 && in.N == 0 && in.K == 0
	}
	return nil, false
}

// goes tells whether all goes well from an instruction on.
func (o *oracle) goes(at int, stack []int) bool {
	o.high = max(o.high, len(stack))
	if before, ok := o.found[at]; ok {
		return slices.Equal(before, stack)
	}
	o.found[at] = stack
	in := o.c.Body[at]
	next, ok := o.after(in, stack)
	if !ok || len(next) > o.c.Stack {
		return false
	}
	if in.Op == api.IJump || in.Op == api.IFalse {
		if to := big.NewInt(int64(in.N)); in.N < 0 || to.Add(to, big.NewInt(int64(at+1))).Cmp(big.NewInt(int64(len(o.c.Body)))) >= 0 {
			return false
		}
		if !o.goes(at+1+in.N, next) {
			return false
		}
	}
	return in.Op == api.IEnd || in.Op == api.IJump || o.goes(at+1, next)
}

// checked is what Check is to tell.
func checked(c api.Code) api.Errno {
	if len(c.Body) > 60000 || len(c.Kinds) > 8000 || c.Stack > 64 {
		return api.ErrLong
	}
	sum := new(big.Int)
	for _, n := range []int{c.Ins, c.Outs, c.Cells} {
		sum.Add(sum, big.NewInt(int64(n)))
	}
	if min(c.Ins, c.Outs, c.Cells, c.Stack) < 0 || sum.Cmp(big.NewInt(int64(len(c.Kinds)))) > 0 || len(c.Init) != c.Cells {
		return api.ErrForm
	}
	for _, kind := range c.Kinds {
		if !isValue(kind, 0) {
			return api.ErrForm
		}
	}
	for i, n := range c.Init {
		if !isValue(c.Kinds[c.Ins+c.Outs+i], n) {
			return api.ErrForm
		}
	}
	last := api.Ins{}
	for _, last = range c.Body {
		if last.Op < 1 || last.Op > 9 {
			return api.ErrForm
		}
	}
	if last.Op != api.IEnd {
		return api.ErrForm
	}
	if o := (&oracle{c: c, found: map[int][]int{}}); !o.goes(0, nil) {
		return api.ErrCode
	}
	return api.OK
}

// numbers are those of code, in order.
func numbers(c api.Code) []int {
	all := slices.Concat([]int{len(c.Kinds), c.Ins, c.Outs, c.Cells, c.Stack}, c.Kinds, c.Init, []int{len(c.Body)})
	for _, in := range c.Body {
		all = append(all, in.Op, in.N, in.K)
	}
	return all
}

// told are the bytes of numbers, told digit by digit.
func told(all ...int) []byte {
	b := []byte{'M', 'T', 'R', '1'}
	for _, n := range all {
		z := new(big.Int).Mul(big.NewInt(int64(n)), big.NewInt(2))
		if n < 0 {
			z.Neg(z).Sub(z, big.NewInt(1))
		}
		for base, digit := big.NewInt(128), new(big.Int); ; b[len(b)-1] += 128 {
			z.DivMod(z, base, digit)
			b = append(b, byte(digit.Int64()))
			if z.Sign() == 0 {
				break
			}
		}
	}
	return b
}

// loose reads numbers of any bytes, however many there are of a number, as long as each ends.
func loose(b []byte) (all []int, ok bool) {
	z, shift := new(big.Int), uint(0)
	for _, digit := range b {
		z.Or(z, new(big.Int).Lsh(big.NewInt(int64(digit%128)), shift))
		shift += 7
		if digit >= 128 {
			continue
		}
		n := new(big.Int).Rsh(z, 1)
		if z.Bit(0) == 1 {
			n.Not(n)
		}
		if !n.IsInt64() {
			return nil, false
		}
		all = append(all, int(n.Int64()))
		z, shift = new(big.Int), 0
	}
	return all, shift == 0
}

// looseCode makes code of numbers, if there are as many as there must be.
func looseCode(all []int) (c api.Code, ok bool) {
	ok = true
	cut := func(n int) []int {
		if n < 0 || n > len(all) {
			ok = false
			return []int{0, 0, 0, 0, 0}
		}
		list := slices.Clone(all[:n])
		all = all[n:]
		return list
	}
	head := cut(5)
	c.Ins, c.Outs, c.Cells, c.Stack = head[1], head[2], head[3], head[4]
	c.Kinds, c.Init = cut(head[0]), cut(head[3])
	length := cut(1)[0]
	if length < 0 || length > len(all)/3 {
		return c, false
	}
	for range length {
		in := cut(3)
		c.Body = append(c.Body, api.Ins{Op: in[0], N: in[1], K: in[2]})
	}
	return c, ok && len(all) == 0
}

// parsed is what Parse is to tell.
func parsed(b []byte) (c api.Code, e api.Errno) {
	if len(b) > 4000000 {
		return c, api.ErrLong
	}
	if !bytes.HasPrefix(b, []byte("MTR1")) {
		return c, api.ErrCode
	}
	all, ok := loose(b[4:])
	if !ok {
		return c, api.ErrCode
	}
	c, ok = looseCode(all)
	if written, e := code.Write(c); !ok || e != api.OK || !bytes.Equal(written, b) {
		return api.Code{}, api.ErrCode
	}
	return c, api.OK
}
