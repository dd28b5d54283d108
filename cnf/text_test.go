package cnf_test

import (
	"math"
	"slices"
	"strings"
	"testing"

	"metronome/api"
	"metronome/cnf"
)

func TestP2304Text(t *testing.T) {
	f, _ := cnf.Of(net(input(), input(), and(0, 2)), []int{4})
	for i, x := range []struct {
		f    api.Formula
		want string
	}{
		{f, "p cnf 3 4\n-3 1 0\n-3 2 0\n3 -1 -2 0\n3 0\n"},
		{formula(0), "p cnf 0 0\n"},
		{formula(0, nil, nil), "p cnf 0 2\n0\n0\n"},
		{formula(12, []int{12, -10, 1, 1}, nil, []int{-12}), "p cnf 12 3\n12 -10 1 1 0\n0\n-12 0\n"},
		{formula(api.MaxGates, []int{api.MaxGates, -api.MaxGates}), "p cnf 200000 1\n200000 -200000 0\n"},
		{formula(-1), ""},
		{formula(2, []int{3}), ""},
		{formula(2, []int{0}), ""},
		{formula(2, []int{1}, []int{math.MinInt}), ""},
		{formula(api.MaxGates + 1), ""},
		{formula(0, make([][]int, api.MaxLits+1)...), ""},
		{formula(0, make([][]int, api.MaxLits)...), "p cnf 0 200000\n" + strings.Repeat("0\n", api.MaxLits)},
	} {
		if got := cnf.Text(x.f); got != x.want {
			t.Errorf("%d: %.200q", i, got)
		}
	}
}

func TestP2304Parse(t *testing.T) {
	for _, s := range []string{
		"p cnf 0 0\n", "p cnf 2 0\n", "p cnf 0 1\n0\n", "p cnf 2 2\n0\n0\n", "p cnf 10 2\n10 -10 -1 9 0\n1 1 0\n", "p cnf 200000 1\n-200000 0\n",
	} {
		f, at, e := cnf.Parse(s)
		if want, ok := wantParse(s); !ok || e != api.OK || at != 0 || !same(f, want) || cnf.Text(f) != s {
			t.Errorf("%q: %v, %d, %v", s, f, at, e)
		}
	}
	digits := strings.Repeat("9", 1000)
	for _, s := range []string{
		"", "\n", "p", "p cnf ", "p cnf 1", "p cnf 1 ", "p cnf 1 0", "p cnf 1 0 ", "p cnf 1 0\n\n", "p cnf 1 0\n ", "p cnf 1 0\nx", "P cnf 1 0\n", " p cnf 1 0\n", "p  cnf 1 0\n", "p cnf  1 0\n", "p cnf 1  0\n", "p cnf 1 0 \n", "p cnf 1 0\r\n", "p dnf 1 0\n",
		"p cnf 01 0\n", "p cnf 1 00\n", "p cnf -1 0\n", "p cnf -0 0\n", "p cnf +1 0\n", "p cnf 1 -0\n", "p cnf 1 -1\n", "p cnf x 0\n", "p cnf 1_0 0\n", "p cnf 0x1 0\n", "p cnf 1. 0\n", "p cnf 200001 0\n", "p cnf 9223372036854775807 0\n", "p cnf 9223372036854775808 0\n", "p cnf " + digits + " 0\n", "p cnf 1 " + digits + "\n0\n", "p cnf 1 18446744073709551617\n1 0\n", "p cnf 1 9223372036854775807\n1 0\n", "p cnf 18446744073709551617 1\n1 0\n",
		"p cnf 1 1\n", "p cnf 1 1\n1", "p cnf 1 1\n1 ", "p cnf 1 1\n1 0", "p cnf 1 1\n1\n", "p cnf 1 1\n1 \n", "p cnf 1 1\n1 0\n0\n", "p cnf 1 2\n1 0\n", "p cnf 1 1\n1 0\n\n", "p cnf 1 1\n\n1 0\n", "p cnf 1 1\n1  0\n", "p cnf 1 1\n 1 0\n", "p cnf 1 1\n1 0 \n", "p cnf 1 1\n1 00\n", "p cnf 1 1\n1 -0\n", "p cnf 1 1\n-0\n", "p cnf 1 1\n0 0\n", "p cnf 1 1\n0 1 0\n", "p cnf 1 1\n-0 1 0\n", "p cnf 1 1\n01 0\n", "p cnf 1 1\n-01 0\n", "p cnf 1 1\n--1 0\n", "p cnf 1 1\n- 1 0\n", "p cnf 1 1\n+1 0\n", "p cnf 1 1\n2 0\n", "p cnf 1 1\n-2 0\n", "p cnf 1 1\n1-1 0\n", "p cnf 1 1\n1\t0\n", "p cnf 1 1\n1\n0\n", "p cnf 1 1\n" + digits + " 0\n", "p cnf 1 1\n-" + digits + " 0\n", "p cnf 1 1\n18446744073709551617 0\n", "p cnf 1 1\n-9223372036854775808 0\n", "p cnf 1 1\nc 0\n", "c x\np cnf 1 1\n1 0\n", "p cnf 1 1\n1 0\n%\n", "p cnf 1 1\n\u0661 0\n", "p cnf \u0661 1\n1 0\n", "p cnf 0 200001\n" + strings.Repeat("0\n", 200001),
	} {
		if f, at, e := cnf.Parse(s); e != api.ErrForm || at != 0 || !isNone(f) {
			t.Errorf("%.80q: %v, %d, %v", s, f, at, e)
		}
	}
}

func TestP2304Long(t *testing.T) {
	for _, s := range []string{strings.Repeat(" ", 2000000), "p cnf 0 1\n" + strings.Repeat("0", 1999990), "p cnf 1 1\n-" + strings.Repeat("1", 1999989), strings.Repeat("p cnf 0 0\n", 200000)} {
		if f, at, e := cnf.Parse(s); len(s) != 2000000 || e != api.ErrForm || at != 0 || !isNone(f) {
			t.Errorf("%.20q: %v, %d", s, e, at)
		}
		if f, at, e := cnf.Parse(s + " "); e != api.ErrLong || at != 0 || !isNone(f) {
			t.Errorf("%.20q: %v, %d", s, e, at)
		}
	}
}

// TestP2304Great: the formulas with the longest texts are read again.
func TestP2304Great(t *testing.T) {
	one := formula(api.MaxGates, slices.Repeat([]int{-api.MaxGates}, api.MaxLits-1))
	most := formula(api.MaxGates, slices.Repeat([][]int{{-api.MaxGates}}, api.MaxLits/2)...)
	none := formula(api.MaxGates, make([][]int, api.MaxLits)...)
	for i, f := range []api.Formula{one, most, none} {
		text := cnf.Text(f)
		if g, at, e := cnf.Parse(text); e != api.OK || at != 0 || !same(f, g) || text != wantText(f) {
			t.Errorf("%d: %v", i, e)
		}
	}
}

func TestP2304Made(t *testing.T) {
	taken := 0
	for seed := range 20000 {
		m := newMaker(seed)
		f := m.formula()
		text := cnf.Text(f)
		if text != wantText(f) {
			t.Fatalf("%v: %q", f, text)
		}
		if g, at, e := cnf.Parse(text); e != api.OK || at != 0 || !same(f, g) {
			t.Fatalf("%v: %v, %d, %v", f, g, at, e)
		}
		s := m.garble(text)
		want, ok := wantParse(s)
		g, at, e := cnf.Parse(s)
		if at != 0 || (e == api.OK) != ok || !same(g, want) || !ok && e != api.ErrForm {
			t.Fatalf("%q: %v, %d, %v, not %v, %v", s, g, at, e, want, ok)
		}
		if ok && s != text {
			taken++
		}
	}
	if taken < 200 {
		t.Errorf("only %d texts were taken", taken)
	}
}
