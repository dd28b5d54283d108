package exec_test

import (
	"math"
	"reflect"
	"slices"
	"sync"
	"testing"

	"metronome/api"
	"metronome/code"
	"metronome/emit"
	"metronome/exec"
)

// TestP2102P2104Oracle: machines of made code, with ticks that are refused and resets among the others; each tick within its bounds.
func TestP2102P2104Oracle(t *testing.T) {
	seen := map[api.Errno]int{}
	changed, longest := 0, 0
	for seed := range 6000 {
		mk := newMaker(seed)
		c := mk.code()
		m, o := machine(t, c), newOracle(c)
		most, e := emit.Most(c)
		if e != api.OK {
			t.Fatalf("%+v: error %d", c, e)
		}
		for range 15 {
			if mk.r.Intn(8) == 0 {
				m.Reset()
				o.reset()
			}
			ins := mk.inputs(c)
			want, n, we := o.tick(ins)
			outs, count, e := m.Tick(ins)
			if e != we || count != n || !slices.Equal(outs, want) || !slices.Equal(m.Cells(), o.cells) {
				t.Fatalf("%+v of %v: %v, %d, error %d, cells %v, not %v, %d, error %d, cells %v", c, ins, outs, count, e, m.Cells(), want, n, we, o.cells)
			}
			if count > most || o.high > c.Stack {
				t.Fatalf("%+v of %v: %d of %d instructions, %d values", c, ins, count, most, o.high)
			}
			seen[e]++
			longest = max(longest, count)
			if !slices.Equal(o.cells, c.Init) {
				changed++
			}
		}
	}
	if seen[api.OK] < 50000 || seen[api.ErrCount] < 5000 || seen[api.ErrArg] < 1000 || changed < 20000 || longest < 100 {
		t.Error(seen, changed, longest)
	}
}

// TestP2103Oracle: Run tells what the ticks of a new machine tell, or the first error.
func TestP2103Oracle(t *testing.T) {
	seen := map[api.Errno]int{}
	for seed := range 3000 {
		mk := newMaker(seed)
		c := mk.code()
		var ins, want [][]int
		o, e := newOracle(c), api.OK
		for range mk.r.Intn(6) {
			values := mk.inputs(c)
			ins = append(ins, values)
			if e != api.OK {
				continue
			}
			var outs []int
			outs, _, e = o.tick(values)
			want = append(want, outs)
		}
		if e != api.OK {
			want = nil
		}
		seen[e]++
		if got, f := exec.Run(c, ins); f != e || !same(got, want) || e != api.OK && got != nil {
			t.Fatalf("%+v of %v: %v, error %d, not %v, error %d", c, ins, got, f, want, e)
		}
	}
	if seen[api.OK] < 1000 || seen[api.ErrCount] < 300 || seen[api.ErrArg] < 100 {
		t.Error(seen)
	}
}

// TestP2101Wrong: of code that was spoilt there is a machine, or ErrForm, as code.Check says.
func TestP2101Wrong(t *testing.T) {
	right := 0
	for seed := range 10000 {
		mk := newMaker(seed)
		c := mk.code()
		mk.spoil(&c)
		if len(c.Body) > 0 && mk.r.Intn(2) == 0 {
			mk.spoil(&c)
		}
		if code.Check(c) != api.OK {
			m, e := exec.New(c)
			outs, f := exec.Run(c, nil)
			if m != nil || e != api.ErrForm || outs != nil || f != api.ErrForm {
				t.Fatalf("%+v: %v, error %d, %v, error %d", c, m, e, outs, f)
			}
			continue
		}
		right++
		m, o := machine(t, c), newOracle(c)
		for range 4 {
			ins := mk.inputs(c)
			want, n, we := o.tick(ins)
			if outs, count, e := m.Tick(ins); e != we || count != n || !slices.Equal(outs, want) {
				t.Fatalf("%+v of %v: %v, %d, error %d, not %v, %d, error %d", c, ins, outs, count, e, want, n, we)
			}
		}
	}
	if right < 1000 || right > 9000 {
		t.Error(right)
	}
}

// roomy is a copy with spare room, in which something stands.
func roomy(list []int) []int {
	return append(slices.Clone(list), 55, 66)[:len(list)]
}

func roomyCode(c api.Code) api.Code {
	c.Kinds, c.Init = roomy(c.Kinds), roomy(c.Init)
	c.Body = append(slices.Clone(c.Body), api.Ins{Op: 55}, api.Ins{N: 66})[:len(c.Body)]
	return c
}

// whole has the spare room in its lists, too.
func whole[T any](list []T) []T { return slices.Clone(list[:cap(list)]) }

func wholeCode(c api.Code) api.Code {
	c.Kinds, c.Init, c.Body = whole(c.Kinds), whole(c.Init), whole(c.Body)
	return c
}

// scribble writes over a list, and over its spare room.
func scribble[T any](list []T, mark T) {
	for i := range list[:cap(list)] {
		list[:cap(list)][i] = mark
	}
}

func scribbleCode(c api.Code) {
	scribble(c.Kinds, 77)
	scribble(c.Init, 77)
	scribble(c.Body, api.Ins{Op: 77, N: 77, K: 77})
}

// TestP2104Code: code that is handed in is neither changed nor kept.
func TestP2104Code(t *testing.T) {
	for seed := range 1000 {
		mk := newMaker(seed)
		made := mk.code()
		c := roomyCode(made)
		ahead := wholeCode(c)
		m, o := machine(t, c), newOracle(made)
		for i := range 6 {
			ins := mk.inputs(made)
			want, n, we := o.tick(ins)
			if outs, count, e := m.Tick(ins); e != we || count != n || !slices.Equal(outs, want) || !slices.Equal(m.Cells(), o.cells) {
				t.Fatalf("%+v of %v: %v, %d, error %d, not %v, %d, error %d", made, ins, outs, count, e, want, n, we)
			}
			if i < 3 && !reflect.DeepEqual(wholeCode(c), ahead) {
				t.Fatalf("%+v, no longer %+v", wholeCode(c), ahead)
			}
			if i == 2 {
				scribbleCode(c)
			}
			if i == 4 {
				m.Reset()
				o.reset()
			}
		}
	}
}

// TestP2104Lists: values that are handed in are neither changed nor kept; what is answered is new memory.
func TestP2104Lists(t *testing.T) {
	for seed := range 1000 {
		mk := newMaker(seed)
		c := mk.code()
		m, o := machine(t, c), newOracle(c)
		var given [][]int
		for range 5 {
			ins := roomy(mk.inputs(c))
			given = append(given, ins)
			ahead := whole(ins)
			want, _, we := o.tick(ins)
			outs, _, e := m.Tick(ins)
			if e != we || !slices.Equal(whole(ins), ahead) {
				t.Fatalf("%v, no longer %v", whole(ins), ahead)
			}
			scribble(ins, 77)
			if !slices.Equal(outs, want) {
				t.Fatalf("%v, no longer %v", outs, want)
			}
			scribble(outs, 78)
			scribble(m.Cells(), 79)
			if cells := m.Cells(); !slices.Equal(cells, o.cells) {
				t.Fatalf("%v, no longer %v", cells, o.cells)
			}
			copy(ins, ahead)
		}
		given = append(given, nil, nil)[:len(given)]
		before := whole(given)
		outs, e := exec.Run(c, given)
		if e != api.OK {
			continue
		}
		kept := slices.Clone(outs)
		for i := range kept {
			kept[i] = slices.Clone(kept[i])
		}
		for i := range outs {
			scribble(outs[i], 77)
			for j := i + 1; j < len(outs); j++ {
				if !slices.Equal(outs[j], kept[j]) {
					t.Fatalf("%v, no longer %v", outs, kept)
				}
			}
		}
		scribble(outs, []int{5})
		if again, _ := exec.Run(c, given); !same(again, kept) || !same(whole(given), before) {
			t.Fatalf("%v, then %v", kept, again)
		}
	}
}

// TestP2104Reset: what the cells were at first is not to be had from outside.
func TestP2104Reset(t *testing.T) {
	m := machine(t, adder())
	scribble(m.Cells(), 50)
	m.Tick([]int{5})
	m.Reset()
	scribble(m.Cells(), 60)
	m.Reset()
	if cells := m.Cells(); !slices.Equal(cells, []int{7}) {
		t.Error(cells)
	}
	m.Tick([]int{5})
	m.Reset()
	if cells := m.Cells(); !slices.Equal(cells, []int{7}) {
		t.Error(cells)
	}
}

// TestP2104Two: two machines of one code, and a machine that was copied, have nothing in common.
func TestP2104Two(t *testing.T) {
	c := adder()
	a, b := machine(t, c), machine(t, c)
	a.Tick([]int{1})
	a.Tick([]int{1})
	b.Tick([]int{10})
	twin := *a
	twin.Tick([]int{100})
	if !slices.Equal(a.Cells(), []int{9}) || !slices.Equal(b.Cells(), []int{17}) || !slices.Equal(twin.Cells(), []int{109}) {
		t.Error(a.Cells(), b.Cells(), twin.Cells())
	}
	a.Reset()
	if !slices.Equal(a.Cells(), []int{7}) || !slices.Equal(b.Cells(), []int{17}) || !slices.Equal(twin.Cells(), []int{109}) {
		t.Error(a.Cells(), b.Cells(), twin.Cells())
	}
	twin.Reset()
	a.Tick([]int{1})
	if !slices.Equal(twin.Cells(), []int{7}) {
		t.Error(twin.Cells())
	}
}

// TestP2104Alone: what is answered does not hang on other machines, ahead or at the same time.
func TestP2104Alone(t *testing.T) {
	for seed := range 100 {
		mk := newMaker(seed)
		c := mk.code()
		var ins [][]int
		for len(ins) < 10 {
			if values := mk.inputs(c); newOracle(c).refusal(values) == api.OK {
				ins = append(ins, values)
			}
		}
		want, e := exec.Run(c, ins)
		exec.Run(newMaker(seed+1000).code(), nil)
		exec.Run(api.Code{}, ins)
		var all sync.WaitGroup
		for range 4 {
			all.Go(func() {
				m, _ := exec.New(c)
				for i, values := range ins {
					if outs, _, f := m.Tick(values); f != e || !slices.Equal(outs, want[i]) {
						t.Errorf("%v, then %v", want[i], outs)
					}
				}
				if again, f := exec.Run(c, ins); f != e || !same(again, want) {
					t.Errorf("%v, then %v", want, again)
				}
			})
		}
		all.Wait()
	}
}

// TestP2104None: a machine that New did not make refuses each tick, and does not panic.
func TestP2104None(t *testing.T) {
	for _, m := range []*exec.Machine{nil, {}} {
		m.Reset()
		for _, ins := range [][]int{nil, {}, {1}, {math.MinInt, 2}} {
			if outs, count, e := m.Tick(ins); outs != nil || count != 0 || e != api.ErrForm {
				t.Errorf("%v, %d, error %d", outs, count, e)
			}
		}
		m.Reset()
		if cells := m.Cells(); len(cells) != 0 {
			t.Error(cells)
		}
	}
}

// TestP2104Heavy: as many instructions, slots, values on the stack and ticks as may be.
func TestP2104Heavy(t *testing.T) {
	c := api.Code{Kinds: slices.Repeat([]int{api.U64}, api.MaxCells), Ins: 1, Outs: 1, Cells: api.MaxCells - 2, Init: make([]int, api.MaxCells-2), Stack: api.MaxStack}
	c.Body = slices.Repeat([]api.Ins{load(0)}, api.MaxStack)
	for range api.MaxStack - 1 {
		c.Body = append(c.Body, bin(api.OpAdd, api.U64))
	}
	c.Body = append(c.Body, save(2))
	for len(c.Body) < api.MaxCode-9 {
		at := 2 + len(c.Body)%(api.MaxCells-3)
		c.Body = append(c.Body, load(at), push(1, api.U64), bin(api.OpAdd, api.U64), save(at+1))
	}
	for len(c.Body) < api.MaxCode-5 {
		c.Body = append(c.Body, jump(0))
	}
	c.Body = append(c.Body, load(2), push(3, api.U64), bin(api.OpMul, api.U64), save(1), end())
	most, e := emit.Most(c)
	if most != api.MaxCode || e != api.OK {
		t.Fatal(most, e)
	}
	m := machine(t, c)
	for n := range 20 {
		if outs, count, e := m.Tick([]int{n}); e != api.OK || count != most || outs[0] != 3*64*n {
			t.Fatalf("%v, %d, error %d", outs, count, e)
		}
	}
	c.Body = []api.Ins{load(0), load(2), bin(api.OpAdd, api.U64), save(2), load(2), save(1), end()}
	if outs, e := exec.Run(c, slices.Repeat([][]int{{3}}, api.MaxTicks)); e != api.OK || len(outs) != api.MaxTicks || outs[api.MaxTicks-1][0] != 3*api.MaxTicks {
		t.Errorf("%d, error %d", len(outs), e)
	}
}
