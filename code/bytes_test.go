package code_test

import (
	"bytes"
	"math"
	"reflect"
	"slices"
	"testing"

	"metronome/api"
	"metronome/code"
)

// TestP1902Example: the chapter's bytes, and those that it leaves out.
func TestP1902Example(t *testing.T) {
	want := slices.Concat([]byte("MTR1"), []byte{4, 2, 2, 0, 4}, []byte{4, 4}, []byte{10}, []byte{4, 0, 0}, []byte{2, 2, 4}, []byte{10, 6, 4}, []byte{6, 2, 0}, []byte{18, 0, 0})
	if b, e := code.Write(small()); e != api.OK || !bytes.Equal(b, want) {
		t.Errorf("%v, error %d", b, e)
	}
	want = slices.Concat([]byte("MTR1"), []byte{18, 4, 4, 4, 128, 1}, []byte{2, 4, 4, 2, 18, 2, 4, 2, 18}, []byte{1, 2}, []byte{2}, []byte{18, 0, 0})
	if b, e := code.Write(rich(64, end())); e != api.OK || !bytes.Equal(b, want) {
		t.Errorf("%v, error %d", b, e)
	}
}

// numberRows are numbers and their bytes.
func numberRows() map[int][]byte {
	return map[int][]byte{
		0: {0}, -1: {1}, 1: {2}, -2: {3}, 2: {4}, 63: {126}, -64: {127}, 64: {128, 1}, -65: {129, 1}, 65: {130, 1}, 127: {254, 1}, -128: {255, 1}, 128: {128, 2}, 8191: {254, 127}, -8192: {255, 127}, 8192: {128, 128, 1}, -8193: {129, 128, 1},
		1<<55 - 1: {254, 255, 255, 255, 255, 255, 255, 127}, 1 << 55: {128, 128, 128, 128, 128, 128, 128, 128, 1}, 1<<62 - 1: {254, 255, 255, 255, 255, 255, 255, 255, 127}, -1 << 62: {255, 255, 255, 255, 255, 255, 255, 255, 127},
		1 << 62: {128, 128, 128, 128, 128, 128, 128, 128, 128, 1}, -1<<62 - 1: {129, 128, 128, 128, 128, 128, 128, 128, 128, 1}, math.MaxInt: {254, 255, 255, 255, 255, 255, 255, 255, 255, 1}, math.MinInt: {255, 255, 255, 255, 255, 255, 255, 255, 255, 1},
	}
}

// framed are the bytes of code in which a number stands at a place at which any may: an instruction that is not reached.
func framed(number []byte) []byte {
	return slices.Concat([]byte("MTR1"), []byte{0, 0, 0, 0, 0}, []byte{6}, []byte{14, 2, 0}, []byte{2}, number, []byte{8, 18, 0, 0})
}

func frame(n int) api.Code { return api.Code{Body: []api.Ins{jump(1), push(n, 4), end()}} }

func TestP1902P1903Numbers(t *testing.T) {
	for n, number := range numberRows() {
		if b, e := code.Write(frame(n)); e != api.OK || !bytes.Equal(b, framed(number)) {
			t.Errorf("%d: %v, error %d", n, b, e)
		}
		if c, e := code.Parse(framed(number)); e != api.OK || !reflect.DeepEqual(c, frame(n)) {
			t.Errorf("%d: %+v, error %d", n, c, e)
		}
	}
	for _, kind := range []int{api.I64, api.U64} {
		for n, number := range numberRows() {
			c := api.Code{Kinds: []int{kind}, Cells: 1, Init: []int{n}, Stack: 1, Body: []api.Ins{push(n, kind), save(0), end()}}
			want := slices.Concat([]byte("MTR1"), []byte{2, 0, 0, 2, 2}, []byte{byte(2 * kind)}, number, []byte{6, 2}, number, []byte{byte(2 * kind), 6, 0, 0, 18, 0, 0})
			if b, e := code.Write(c); e != api.OK || !bytes.Equal(b, want) {
				t.Errorf("%d: %v, error %d", n, b, e)
			}
			if again, e := code.Parse(want); e != api.OK || !reflect.DeepEqual(again, c) {
				t.Errorf("%d: %+v, error %d", n, again, e)
			}
		}
	}
}

// TestP1902Wrong: of code that Check refuses no byte is told.
func TestP1902Wrong(t *testing.T) {
	for want, list := range map[api.Errno][]func(*api.Code){api.ErrLong: longs(), api.ErrForm: forms(), api.ErrCode: {func(c *api.Code) { c.Stack = 0 }, func(c *api.Code) { c.Body[0].N = 9 }}} {
		for i, turn := range list {
			if b, e := code.Write(turned(plain(), turn)); e != want || len(b) != 0 {
				t.Errorf("%d, %d: %v, error %d", want, i, b, e)
			}
		}
	}
	if b, e := code.Write(api.Code{}); e != api.ErrForm || len(b) != 0 {
		t.Errorf("%v, error %d", b, e)
	}
}

// refused tells whether nothing but that error is told of bytes.
func refused(t *testing.T, b []byte, want api.Errno) {
	t.Helper()
	if c, e := code.Parse(b); e != want || !reflect.DeepEqual(c, api.Code{}) {
		t.Errorf("%v: %+v, error %d, not %d", b[:min(len(b), 100)], c, e, want)
	}
}

func TestP1903Numbers(t *testing.T) {
	high := []byte{128, 128, 128, 128, 128, 128, 128, 128, 128}
	full := []byte{255, 255, 255, 255, 255, 255, 255, 255, 255}
	for _, number := range [][]byte{
		{}, {128}, {128, 0}, {255, 0}, {129, 128, 0}, {128, 128, 128, 0}, append(high[:8:8], 0), append(high[:9:9], 0), append(full[:9:9], 0), append(high[:9:9], 128, 0), append(full[:9:9], 255, 0), // more bytes than must be
		append(high[:9:9], 2), append(full[:9:9], 2), append(full[:9:9], 3), append(high[:9:9], 3), append(high[:9:9], 64), append(full[:9:9], 65), append(full[:9:9], 127), // more than 64 bits
		append(high[:9:9], 129), append(high[:9:9], 128, 1), append(full[:9:9], 129, 1), append(full[:9:9], 255, 127), append(high[:9:9], 129, 0), bytes.Repeat([]byte{128}, 40), append(bytes.Repeat([]byte{255}, 4000), 1),
	} {
		refused(t, framed(number), api.ErrCode)
	}
}

// TestP1903Everywhere: each number of code, told with more bytes than must be, told otherwise, left out, told twice; each byte left out.
func TestP1903Everywhere(t *testing.T) {
	for _, c := range []api.Code{small(), plain(), frame(-1), frame(math.MinInt), {Body: ends(1)}} {
		all := numbers(c)
		b := told(all...)
		if again, e := code.Parse(b); e != api.OK || !reflect.DeepEqual(again, c) {
			t.Errorf("%+v, error %d", again, e)
		}
		for i := range all {
			from, to := len(told(all[:i]...)), len(told(all[:i+1]...))
			for _, zeros := range [][]byte{{128, 0}, {0}, {128, 128, 128, 128, 128, 128, 128, 128, 128, 128, 0}} {
				long := slices.Clone(b[from:to])
				long[len(long)-1] |= 128
				refused(t, slices.Concat(b[:from], long, zeros, b[to:]), api.ErrCode)
			}
			refused(t, slices.Concat(b[:from], b[to:]), api.ErrCode)
			refused(t, b[:from], api.ErrCode)
		}
		for i := range b {
			refused(t, b[:i], api.ErrCode)
			agrees(t, slices.Delete(slices.Clone(b), i, i+1))
			for n := range 256 {
				other := slices.Clone(b)
				other[i] = byte(n)
				agrees(t, other)
				agrees(t, slices.Insert(slices.Clone(b), i, byte(n)))
			}
		}
		for n := range 256 {
			refused(t, append(slices.Clone(b), byte(n)), api.ErrCode)
		}
		refused(t, slices.Concat(b, b), api.ErrCode)
	}
}

// agrees holds what Parse tells against the oracle.
func agrees(t *testing.T, b []byte) api.Errno {
	t.Helper()
	want, e := parsed(b)
	got, f := code.Parse(b)
	if e != f || !same(got, want) {
		t.Fatalf("%v: %+v, error %d, not %+v, error %d", b, got, f, want, e)
	}
	return f
}

// same tells whether code is the same; no list and an empty one are.
func same(a, b api.Code) bool {
	return slices.Equal(a.Kinds, b.Kinds) && slices.Equal(a.Init, b.Init) && slices.Equal(a.Body, b.Body) && a.Ins == b.Ins && a.Outs == b.Outs && a.Cells == b.Cells && a.Stack == b.Stack
}

func TestP1903Mark(t *testing.T) {
	b := framed([]byte{0})
	for _, mark := range []string{"", "M", "MT", "MTR", "MTR2", "mtr1", "MTR0", "NTR1", "MTR11", " MTR1", "MTR1MTR1"} {
		refused(t, append([]byte(mark), b[4:]...), api.ErrCode)
		refused(t, []byte(mark), api.ErrCode)
	}
	refused(t, nil, api.ErrCode)
	refused(t, []byte{}, api.ErrCode)
	refused(t, []byte("MTR1"), api.ErrCode)
}

// TestP1903Refused: bytes of code that Check refuses, whatever it says of it.
func TestP1903Refused(t *testing.T) {
	for i, turn := range slices.Concat(longs(), forms()) {
		c := turned(plain(), turn)
		if len(c.Init) != c.Cells { // bytes say how many there are but once
			continue
		}
		if code.Check(c) == api.OK {
			t.Error(i)
		}
		refused(t, told(numbers(c)...), api.ErrCode)
	}
	refused(t, told(numbers(turned(small(), func(c *api.Code) { c.Stack = 1 }))...), api.ErrCode)
	refused(t, told(numbers(turned(small(), func(c *api.Code) { c.Body[0].N = 5 }))...), api.ErrCode)
}

// TestP1903Counts: numbers that say that there are more items than there are.
func TestP1903Counts(t *testing.T) {
	for _, n := range []int{-1, 1, 2, 3, 8000, 8001, 60000, 60001, 1 << 31, 1 << 40, math.MaxInt / 3, math.MaxInt, math.MinInt} {
		refused(t, told(n, 0, 0, 0, 0, 1, api.IEnd, 0, 0), api.ErrCode)
		refused(t, told(0, 0, 0, n, 0, 1, api.IEnd, 0, 0), api.ErrCode)
		refused(t, told(n, 0, 0, n, 0, 1, api.IEnd, 0, 0), api.ErrCode)
		refused(t, told(n), api.ErrCode)
		refused(t, told(0, 0, 0, 0, 0, n), api.ErrCode)
		if n != 1 {
			refused(t, told(0, 0, 0, 0, 0, n, api.IEnd, 0, 0), api.ErrCode)
		}
	}
	// below 0, and just so many numbers that another reading would do
	refused(t, told(-1, 0, 0, 0, 0, 0, 0), api.ErrCode)
	refused(t, told(0, 0, 0, -1, 0, 1, api.IEnd, 0, 0), api.ErrCode)
}

// TestP1903Long: more than 4,000,000 bytes are too long, whatever they are.
func TestP1903Long(t *testing.T) {
	for _, b := range [][]byte{framed([]byte{0}), told(numbers(small())...), nil, []byte("MTR1"), []byte("what")} {
		for _, fill := range []byte{0, 1, 128, 255} {
			much := append(slices.Clone(b), bytes.Repeat([]byte{fill}, 4000001-len(b))...)
			refused(t, much, api.ErrLong)
			refused(t, much[:4000000], api.ErrCode)
		}
	}
	refused(t, make([]byte, 9000000), api.ErrLong)
	// a number that does not end
	refused(t, append(framed(nil)[:14], bytes.Repeat([]byte{255}, 3000000)...), api.ErrCode)
	refused(t, append([]byte("MTR1"), bytes.Repeat([]byte{2}, 3000000)...), api.ErrCode)
}

// TestP1902P1903Greatest: as many of all as may be, with numbers that need all bytes.
func TestP1902P1903Greatest(t *testing.T) {
	c := api.Code{Kinds: slices.Repeat([]int{api.U64}, api.MaxCells), Cells: api.MaxCells, Init: slices.Repeat([]int{math.MinInt}, api.MaxCells), Stack: api.MaxStack}
	c.Body = append([]api.Ins{jump(api.MaxCode - 2)}, slices.Repeat([]api.Ins{{Op: api.IPush, N: math.MinInt, K: math.MaxInt}}, api.MaxCode-2)...)
	c.Body = append(c.Body, end())
	b, e := code.Write(c)
	if want := told(numbers(c)...); e != api.OK || !bytes.Equal(b, want) {
		t.Fatalf("%d bytes, not %d, error %d", len(b), len(want), e)
	}
	if again, e := code.Parse(b); e != api.OK || !reflect.DeepEqual(again, c) {
		t.Errorf("error %d", e)
	}
	refused(t, b[:len(b)-1], api.ErrCode)
	refused(t, append(b, 0), api.ErrCode)
}
