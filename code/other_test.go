package code_test

import (
	"bytes"
	"math"
	"math/rand"
	"reflect"
	"slices"
	"sync"
	"testing"

	"metronome/api"
	"metronome/code"
)

// TestP1901Instructions: each instruction with some numbers on each stack of up to two values, and what it leaves there.
func TestP1901Instructions(t *testing.T) {
	var stacks [][]int
	for a := range api.U64 + 1 {
		for b := range api.U64 + 1 {
			stacks = append(stacks, slices.DeleteFunc([]int{a, b}, func(kind int) bool { return kind == 0 }))
		}
	}
	kinds := []int{api.Bool, api.I8, api.I16, api.I32, api.I64, api.U8, api.U16, api.U32, api.U64}
	right := 0
	for _, stack := range stacks {
		for op := api.IPush; op <= api.IEnd; op++ {
			for n := -1; n <= 20; n++ {
				for k := -1; k <= 10; k++ {
					c := api.Code{Kinds: slices.Concat(kinds[:2], kinds), Ins: 2, Outs: 1, Stack: 3} // behind two inputs a slot of each kind
					for _, kind := range stack {
						c.Body = append(c.Body, push(1, kind))
					}
					in := api.Ins{Op: op, N: n, K: k}
					c.Body = append(c.Body, in)
					next, ok := (&oracle{c: c}).after(in, stack)
					if op == api.IEnd || n > 0 && op >= api.IJump { // what is behind them is not there yet
						continue
					}
					for i := len(next) - 1; ok && i >= 0; i-- {
						c.Body = append(c.Body, save(1+next[i]))
					}
					c.Body = append(c.Body, end())
					want := api.ErrCode
					if ok && (op < api.IJump || n == 0) { // after does not ask where a jump leads to
						want = api.OK
						right++
					}
					if e := code.Check(c); e != want {
						t.Fatalf("%v, %v: error %d", stack, in, e)
					}
				}
			}
		}
	}
	if right < 5000 {
		t.Error(right)
	}
}

// TestP1901Oracle: made code, and what is left of it when it was spoilt.
func TestP1901Oracle(t *testing.T) {
	count := map[api.Errno]int{}
	for seed := range 20000 {
		m := newMaker(seed)
		c := m.code()
		if e := code.Check(c); e != api.OK {
			t.Fatalf("%+v: error %d", c, e)
		}
		for range 1 + m.r.Intn(3) {
			if len(c.Body) > 0 {
				m.spoil(&c)
			}
		}
		want := checked(c)
		count[want]++
		if e := code.Check(c); e != want {
			t.Fatalf("%+v: error %d, not %d", c, e, want)
		}
	}
	for _, e := range []api.Errno{api.OK, api.ErrForm, api.ErrCode, api.ErrLong} {
		if count[e] < 200 {
			t.Error(count)
		}
	}
}

// TestP1901Stack: the least Stack that will do is the height of the highest stack on the way.
func TestP1901Stack(t *testing.T) {
	for seed := range 3000 {
		c := newMaker(seed).code()
		o := oracle{c: c, found: map[int][]int{}}
		o.goes(0, nil)
		for high := range api.MaxStack + 1 {
			want := api.OK
			if high < o.high {
				want = api.ErrCode
			}
			c.Stack = high
			if e := code.Check(c); e != want {
				t.Fatalf("%+v: error %d, not %d", c, e, want)
			}
		}
	}
}

// TestP1902P1903Oracle: made code is told as the oracle tells it, and parsed as it was.
func TestP1902P1903Oracle(t *testing.T) {
	for seed := range 5000 {
		c := newMaker(seed).code()
		b, e := code.Write(c)
		if want := told(numbers(c)...); e != api.OK || !bytes.Equal(b, want) {
			t.Fatalf("%+v: %v, not %v, error %d", c, b, want, e)
		}
		if again, e := code.Parse(b); e != api.OK || !same(again, c) {
			t.Fatalf("%+v: %+v, error %d", c, again, e)
		}
	}
}

// scratch changes some bytes.
func scratch(r *rand.Rand, b []byte) []byte {
	for range 1 + r.Intn(2) {
		at := 4 + r.Intn(max(1, len(b)-4))
		switch r.Intn(5) {
		case 0:
			b[at] = byte(r.Intn(256))
		case 1:
			b[at] ^= 1 << r.Intn(8)
		case 2:
			b = slices.Delete(b, at, at+1)
		case 3:
			b = slices.Insert(b, at, byte(pick(r, []int{0, 2, 4, 128, 255, r.Intn(256)})))
		case 4:
			b = slices.Insert(b, at, b[at:min(len(b), at+3)]...)
		}
		if len(b) < 6 {
			break
		}
	}
	return b
}

// TestP1903Oracle: bytes of made code that were spoilt.
func TestP1903Oracle(t *testing.T) {
	count := map[api.Errno]int{}
	for seed := range 20000 {
		m := newMaker(seed)
		b := told(numbers(m.code())...)
		count[agrees(t, scratch(m.r, b))]++
	}
	if count[api.OK] < 500 || count[api.ErrCode] < 5000 {
		t.Error(count)
	}
}

// copied is a copy that shares nothing, with room to spare.
func copied[T any](list []T) []T {
	return append(make([]T, 0, len(list)+3), list...)
}

func copiedCode(c api.Code) api.Code {
	c.Kinds, c.Init, c.Body = copied(c.Kinds), copied(c.Init), copied(c.Body)
	return c
}

// wholeCode has the spare room in its lists, too.
func wholeCode(c api.Code) api.Code {
	c.Kinds, c.Init, c.Body = slices.Clone(c.Kinds[:cap(c.Kinds)]), slices.Clone(c.Init[:cap(c.Init)]), slices.Clone(c.Body[:cap(c.Body)])
	return c
}

// scribble writes over a list, and over its spare room.
func scribble[T any](list []T, mark T) {
	for i := range list[:cap(list)] {
		list[:cap(list)][i] = mark
	}
}

func scribbleCode(c api.Code) {
	scribble(c.Kinds, 77)
	scribble(c.Init, 77)
	scribble(c.Body, api.Ins{Op: 77, N: 77, K: 77})
}

// some is made code, spoilt at each second seed.
func some(seed int) api.Code {
	m := newMaker(seed)
	c := m.code()
	if seed%2 == 1 {
		m.spoil(&c)
	}
	return c
}

// TestP1904Code: code that is handed in is neither changed nor kept.
func TestP1904Code(t *testing.T) {
	for seed := range 2000 {
		want := some(seed)
		c := copiedCode(want)
		scribble(c.Kinds[len(c.Kinds):], 5)
		ahead := wholeCode(c)
		e := code.Check(c)
		b, f := code.Write(c)
		if e != f || !reflect.DeepEqual(wholeCode(c), ahead) {
			t.Fatalf("%+v, no longer %+v", wholeCode(c), ahead)
		}
		kept := slices.Clone(b)
		scribbleCode(c)
		if !bytes.Equal(b, kept) {
			t.Fatalf("%v, no longer %v", b, kept)
		}
		scribble(b, 77)
		if again, g := code.Write(want); g != f || !bytes.Equal(again, kept) || code.Check(want) != e {
			t.Fatalf("%v, then %v", kept, again)
		}
	}
}

// TestP1904Bytes: bytes that are handed in are neither changed nor kept; the lists that are answered share nothing.
func TestP1904Bytes(t *testing.T) {
	for seed := range 2000 {
		m := newMaker(seed)
		made := told(numbers(m.code())...)
		if seed%2 == 1 {
			made = scratch(m.r, made)
		}
		b := copied(made)
		scribble(b[len(b):], 5)
		ahead := slices.Clone(b[:cap(b)])
		c, e := code.Parse(b)
		if !bytes.Equal(b[:cap(b)], ahead) {
			t.Fatalf("%v, no longer %v", b[:cap(b)], ahead)
		}
		kept := copiedCode(c)
		scribble(b, 77)
		if !same(c, kept) {
			t.Fatalf("%+v, no longer %+v", c, kept)
		}
		scribble(c.Kinds, 77)
		if !slices.Equal(c.Init, kept.Init) || !slices.Equal(c.Body, kept.Body) {
			t.Fatalf("%+v, no longer %+v", c, kept)
		}
		scribble(c.Init, 78)
		if slices.Contains(c.Kinds, 78) {
			t.Fatalf("%+v", c)
		}
		scribbleCode(c)
		if again, f := code.Parse(made); f != e || !same(again, kept) {
			t.Fatalf("%+v, then %+v", kept, again)
		}
	}
}

// TestP1904Alone: what is answered does not hang on calls ahead, or at the same time.
func TestP1904Alone(t *testing.T) {
	for seed := range 200 {
		want, e := code.Write(some(seed))
		code.Write(some(seed + 1000))
		code.Check(api.Code{})
		code.Parse([]byte("MTR1"))
		var all sync.WaitGroup
		for range 4 {
			all.Go(func() {
				b, f := code.Write(some(seed))
				if f != e || !bytes.Equal(b, want) || code.Check(some(seed)) != e {
					t.Errorf("%v, then %v", want, b)
				}
				if c, f := code.Parse(b); e == api.OK && (f != e || !same(c, some(seed))) {
					t.Errorf("%+v, error %d", c, f)
				}
			})
		}
		all.Wait()
	}
}

// TestP1901Heavy: as many instructions as may be, with a stack as high as may be, and as many jumps to one place.
func TestP1901Heavy(t *testing.T) {
	body := slices.Repeat([]api.Ins{push(math.MaxInt, api.U64)}, api.MaxStack-1)
	for len(body) < api.MaxCode-api.MaxStack-1 {
		body = append(body, load(0), unless(api.MaxCode-api.MaxStack-2-len(body)))
	}
	for len(body) < api.MaxCode-api.MaxStack {
		body = append(body, jump(0))
	}
	c := rich(api.MaxStack, append(slices.Concat(body, slices.Repeat([]api.Ins{save(8)}, api.MaxStack-1)), end())...)
	if e := code.Check(c); e != api.OK || len(c.Body) != api.MaxCode {
		t.Errorf("%d instructions: error %d", len(c.Body), e)
	}
	c.Body[5000] = jump(1)
	if want, e := checked(c), code.Check(c); e != want {
		t.Errorf("error %d, not %d", e, want)
	}
	c.Stack--
	if e := code.Check(c); e != api.ErrCode {
		t.Errorf("error %d", e)
	}
}
