package emit_test

import (
	"math"
	"math/rand"
	"reflect"
	"slices"
	"testing"

	"metronome/api"
	"metronome/code"
	"metronome/emit"
	"metronome/exec"
)

func push(n, kind int) api.Ins { return api.Ins{Op: api.IPush, N: n, K: kind} }
func load(slot int) api.Ins    { return api.Ins{Op: api.ILoad, N: slot} }
func save(slot int) api.Ins    { return api.Ins{Op: api.ISave, N: slot} }
func jump(n int) api.Ins       { return api.Ins{Op: api.IJump, N: n} }
func unless(n int) api.Ins     { return api.Ins{Op: api.IFalse, N: n} }
func end() api.Ins             { return api.Ins{Op: api.IEnd} }

// small is the code of chapter 19.
func small() api.Code {
	return api.Code{Kinds: []int{api.I8, api.I8}, Ins: 1, Outs: 1, Stack: 2, Body: []api.Ins{load(0), push(1, api.I8), {Op: api.IBin, N: api.OpAdd, K: api.I8}, save(1), end()}}
}

// plain has an input (bool) and an output (i8).
func plain(body ...api.Ins) api.Code {
	return api.Code{Kinds: []int{api.Bool, api.I8}, Ins: 1, Outs: 1, Stack: 2, Body: append(body, end())}
}

func TestP2002Example(t *testing.T) {
	if n, e := emit.Most(small()); n != 5 || e != api.OK {
		t.Errorf("%d, error %d", n, e)
	}
}

func TestP2002Rows(t *testing.T) {
	one := push(1, api.I8)
	for i, r := range []struct {
		c    api.Code
		want int
	}{
		{plain(), 1}, {plain(one, save(1)), 3}, {plain(jump(0)), 2}, {plain(jump(2), one, save(1)), 2}, {plain(jump(1), end()), 2}, {plain(end(), end(), end()), 1},
		// the longer one of two ways
		{plain(load(0), unless(0)), 3}, {plain(load(0), unless(2), one, save(1)), 5}, {plain(load(0), unless(3), one, save(1), jump(2), one, save(1)), 6}, {plain(load(0), unless(3), one, save(1), jump(4), one, save(1), one, save(1)), 7}, {plain(load(0), unless(1), jump(2), one, save(1)), 5}, {plain(load(0), unless(2), one, jump(1), one, save(1)), 6},
		// a way that ends earlier
		{plain(load(0), unless(1), end(), one, save(1)), 5}, {plain(load(0), unless(5), one, save(1), one, save(1), end()), 7}, {plain(load(0), unless(3), one, save(1), end(), one, save(1)), 5},
		// also where the values never let it be gone
		{plain(push(0, api.Bool), unless(2), one, save(1)), 5}, {plain(push(1, api.Bool), unless(1), end(), one, save(1)), 5}, {plain(load(0), unless(2), one, save(1), load(0), unless(1), end(), one, save(1)), 9},
		// several, one behind the other, one within the other
		{plain(load(0), unless(2), one, save(1), load(0), unless(2), one, save(1)), 9}, {plain(load(0), unless(6), load(0), unless(2), one, save(1), one, save(1)), 9},
		// what no way leads to does not count, whatever it is
		{plain(jump(3), api.Ins{Op: api.IJump, N: math.MaxInt}, api.Ins{Op: api.IFalse, N: math.MinInt, K: 5}, api.Ins{Op: api.IUn, N: 99}), 2}, {plain(end(), jump(-1), unless(60000), load(5000)), 1}, {plain(jump(2), one, jump(1), one, save(1)), 4},
	} {
		if n, e := emit.Most(r.c); n != r.want || e != api.OK {
			t.Errorf("%d: %v: %d, error %d, not %d", i, r.c.Body, n, e, r.want)
		}
	}
}

// TestP2002Refused: what code.Check refuses, whatever for, is ErrForm.
func TestP2002Refused(t *testing.T) {
	for i, turn := range []func(*api.Code){
		func(c *api.Code) { *c = api.Code{} }, func(c *api.Code) { c.Body = slices.Repeat([]api.Ins{end()}, api.MaxCode+1) }, func(c *api.Code) { c.Kinds = slices.Repeat([]int{api.I8}, api.MaxCells+1) }, func(c *api.Code) { c.Stack = 65 },
		func(c *api.Code) { c.Ins = -1 }, func(c *api.Code) { c.Outs = 1 << 62 }, func(c *api.Code) { c.Kinds[0] = 10 }, func(c *api.Code) { c.Init = []int{0} }, func(c *api.Code) { c.Body = nil }, func(c *api.Code) { c.Body = c.Body[:4] }, func(c *api.Code) { c.Body[0].Op = 0 },
		func(c *api.Code) { c.Stack = 1 }, func(c *api.Code) { c.Body[0].N = 2 }, func(c *api.Code) { c.Body[0] = jump(4) }, func(c *api.Code) { c.Body[0] = jump(-1) }, func(c *api.Code) { c.Body[0] = jump(math.MaxInt) }, func(c *api.Code) { c.Body[3] = end() },
	} {
		c := small()
		turn(&c)
		if n, e := emit.Most(c); code.Check(c) == api.OK || n != 0 || e != api.ErrForm {
			t.Errorf("%d: %d, error %d", i, n, e)
		}
	}
}

// ways is code of many ways: each question is an input of its own, so that values can let each way be gone.
func ways(r *rand.Rand, questions int) api.Code {
	c := api.Code{Kinds: slices.Repeat([]int{api.Bool}, questions+1), Ins: questions, Outs: 1, Stack: 1}
	var starts []int
	for asked := 0; asked < questions || r.Intn(6) > 0; {
		starts = append(starts, len(c.Body))
		switch r.Intn(6) {
		case 0:
			c.Body = append(c.Body, jump(0))
		case 1, 2:
			if asked < questions {
				c.Body = append(c.Body, load(asked), unless(0))
				asked++
			}
		case 3:
			if r.Intn(4) == 0 {
				c.Body = append(c.Body, end())
			}
		default:
			c.Body = append(c.Body, load(0), save(questions))
		}
	}
	starts = append(starts, len(c.Body))
	c.Body = append(c.Body, end())
	for at, in := range c.Body {
		if in.Op == api.IJump || in.Op == api.IFalse {
			first, _ := slices.BinarySearch(starts, at+1)
			near := starts[first:min(len(starts), first+8)]
			c.Body[at].N = near[r.Intn(len(near))] - at - 1
		}
	}
	return c
}

// reached are the instructions that some way leads to.
func reached(c api.Code) map[int]bool {
	found := map[int]bool{}
	var visit func(int)
	visit = func(at int) {
		if found[at] {
			return
		}
		found[at] = true
		in := c.Body[at]
		if in.Op == api.IJump || in.Op == api.IFalse {
			visit(at + 1 + in.N)
		}
		if in.Op != api.IJump && in.Op != api.IEnd {
			visit(at + 1)
		}
	}
	visit(0)
	return found
}

// ran is the greatest number of instructions that a tick runs, of all values that the inputs can have.
func ran(t *testing.T, c api.Code) (most int) {
	t.Helper()
	m, e := exec.New(c)
	if e != api.OK {
		t.Fatalf("%+v: error %d", c, e)
	}
	for bits := range 1 << c.Ins {
		var ins []int
		for i := range c.Ins {
			ins = append(ins, bits>>i&1)
		}
		_, n, _ := m.Tick(ins)
		most = max(most, n)
	}
	return most
}

// TestP2002Oracle: code of many ways, all of which are gone; then with anything where no way leads to.
func TestP2002Oracle(t *testing.T) {
	idle := 0
	for seed := range 3000 {
		r := rand.New(rand.NewSource(int64(seed)))
		c := ways(r, r.Intn(9))
		want := ran(t, c)
		if n, e := emit.Most(c); n != want || e != api.OK {
			t.Fatalf("%+v: %d, error %d, not %d", c, n, e, want)
		}
		found := reached(c)
		for at := range c.Body[:len(c.Body)-1] {
			if !found[at] {
				idle++
				c.Body[at] = api.Ins{Op: 1 + r.Intn(9), N: []int{0, 1, -1, 70000, math.MaxInt, math.MinInt, int(r.Uint64())}[r.Intn(7)], K: r.Intn(12) - 1}
			}
		}
		if n, e := emit.Most(c); n != want || e != api.OK {
			t.Fatalf("%+v: %d, error %d, not %d", c, n, e, want)
		}
	}
	if idle < 3000 {
		t.Error(idle)
	}
}

// TestP2002Heavy: as many instructions as may be, and more ways than can be gone one by one.
func TestP2002Heavy(t *testing.T) {
	var body []api.Ins
	for len(body) < api.MaxCode-4 {
		body = append(body, load(0), unless(1), jump(0))
	}
	for len(body) < api.MaxCode-1 {
		body = append(body, jump(0))
	}
	if n, e := emit.Most(plain(body...)); n != api.MaxCode || e != api.OK {
		t.Errorf("%d, error %d", n, e)
	}
	if n, e := emit.Most(plain(slices.Repeat([]api.Ins{jump(0)}, api.MaxCode)...)); n != 0 || e != api.ErrForm {
		t.Errorf("%d, error %d", n, e)
	}
}

// TestP2003Most: code that is handed in is not changed, and what is told hangs on it alone.
func TestP2003Most(t *testing.T) {
	for seed := range 500 {
		r := rand.New(rand.NewSource(int64(seed)))
		c := roomy(reflect.ValueOf(ways(r, r.Intn(5)))).Interface().(api.Code)
		ahead := whole(reflect.ValueOf(c), true).Interface()
		want, e := emit.Most(c)
		if !reflect.DeepEqual(whole(reflect.ValueOf(c), true).Interface(), ahead) {
			t.Fatalf("%+v, no longer %+v", c, ahead)
		}
		emit.Most(small())
		emit.Most(api.Code{})
		if again, f := emit.Most(c); again != want || e != api.OK || f != api.OK {
			t.Fatalf("%+v: %d, then %d", c, want, again)
		}
	}
}
