package rate_test

import (
	"math"
	"math/rand"
	"reflect"
	"testing"

	"metronome/api"
	"metronome/rate"
)

// pairs is a list of n pairs that are all the same.
func pairs(n, period, offset int) (l [][2]int) {
	for range n {
		l = append(l, [2]int{period, offset})
	}
	return l
}

func TestP1601Active(t *testing.T) {
	for _, x := range []struct {
		period, offset, tick int
		want                 bool
	}{
		{3, 1, 4, true}, {3, 1, 1, true}, {3, 1, 0, false}, {3, 1, 3, false}, {3, 1, 5, false}, {3, 0, 0, true}, {3, 2, 2, true},
		{1, 0, 0, true}, {1, 0, math.MaxInt, true}, {64, 63, 127, true}, {65, 64, 129, true}, {5000, 4999, 9999, true},
		{math.MaxInt, 0, 0, true}, {math.MaxInt, 0, math.MaxInt, true}, {math.MaxInt, math.MaxInt - 1, math.MaxInt - 1, true}, {2, 1, math.MaxInt, true},
		{0, 0, 0, false}, {-1, 0, 0, false}, {-3, 1, 4, false}, {-3, -1, 4, false}, {math.MinInt, 0, 0, false}, {math.MinInt, math.MinInt, math.MinInt, false},
		{3, 3, 3, false}, {3, 3, 0, false}, {3, 4, 4, false}, {1, 1, 1, false}, {3, math.MaxInt, math.MaxInt, false},
		{3, -1, 2, false}, {3, -1, -1, false}, {3, -3, 0, false}, {3, math.MinInt, 0, false},
		{3, 1, -2, false}, {3, 0, -3, false}, {1, 0, -1, false}, {1, 0, math.MinInt, false},
	} {
		if got := rate.Active(x.period, x.offset, x.tick); got != x.want {
			t.Errorf("%+v: %v", x, got)
		}
	}
}

// TestP1601All goes over small numbers: a tick is on, if the offset and some periods make it.
func TestP1601All(t *testing.T) {
	for period := -3; period <= 9; period++ {
		for offset := -4; offset <= 10; offset++ {
			on := map[int]int{}
			for tick := offset; period >= 1 && offset >= 0 && offset < period && tick <= 40; tick += period {
				on[tick]++
			}
			for tick := -20; tick <= 40; tick++ {
				if got := rate.Active(period, offset, tick); got != (on[tick] > 0) {
					t.Errorf("%d, %d, %d: %v", period, offset, tick, got)
				}
			}
		}
	}
}

func TestP1602Example(t *testing.T) {
	base, rows, e := rate.Table([][2]int{{2, 0}, {3, 1}})
	want := [][]bool{{true, false}, {false, true}, {true, false}, {false, false}, {true, true}, {false, false}}
	if base != 6 || e != api.OK || !reflect.DeepEqual(rows, want) {
		t.Errorf("%d, %v, error %d", base, rows, e)
	}
}

func TestP1602None(t *testing.T) {
	for _, l := range [][][2]int{nil, {}} {
		if base, rows, e := rate.Table(l); base != 1 || len(rows) != 1 || len(rows[0]) != 0 || e != api.OK {
			t.Errorf("%d, %v, error %d", base, rows, e)
		}
	}
}

// TestP1602Base: the base period is the least, whatever the periods share.
func TestP1602Base(t *testing.T) {
	for _, x := range []struct {
		l    [][2]int
		base int
	}{
		{[][2]int{{1, 0}}, 1}, {[][2]int{{64, 63}}, 64}, {[][2]int{{6, 5}, {4, 3}}, 12}, {[][2]int{{4, 3}, {6, 5}}, 12}, {[][2]int{{8, 0}, {2, 1}, {4, 2}}, 8},
		{[][2]int{{5, 0}, {5, 1}, {5, 1}}, 5}, {[][2]int{{6, 0}, {10, 0}, {15, 0}}, 30}, {[][2]int{{64, 1}, {48, 2}, {60, 3}}, 960},
		{[][2]int{{8, 0}, {25, 0}, {50, 0}, {20, 0}}, 200}, {[][2]int{{61, 0}, {59, 0}}, 3599}, {[][2]int{{9, 8}, {11, 10}, {50, 49}}, 4950},
		{[][2]int{{62, 0}, {40, 0}, {4, 0}}, 1240}, {[][2]int{{56, 0}, {39, 1}, {16, 0}}, 4368}, {pairs(64, 64, 3), 64},
	} {
		if base, rows, e := rate.Table(x.l); base != x.base || len(rows) != x.base || e != api.OK {
			t.Errorf("%v: %d, %d rows, error %d", x.l, base, len(rows), e)
		}
	}
}

// wrongPairs are lists that Table refuses.
func wrongPairs() map[api.Errno][][][2]int {
	far := pairs(40, 1, 0)
	for i, prime := range []int{64, 61, 59, 53, 47, 43, 41, 37, 31, 29, 23, 19, 17, 13, 11, 9, 7, 5} {
		far[2*i][0] = prime
	}
	return map[api.Errno][][][2]int{
		api.ErrArg: {
			{{0, 0}}, {{-1, 0}}, {{math.MinInt, 0}}, {{65, 0}}, {{math.MaxInt, 1}}, {{2, 2}}, {{2, 3}}, {{1, 1}}, {{2, math.MaxInt}}, {{2, -1}}, {{2, math.MinInt}}, {{0, -1}}, {{-3, -4}},
			{{2, 0}, {0, 0}}, {{2, 0}, {2, 2}, {2, 1}},
			append(pairs(64, 1, 0), [2]int{0, 0}), append(pairs(64, 1, 0), [2]int{65, 0}), append(pairs(100, 1, 0), [2]int{2, -1}), append([][2]int{{1, 1}}, pairs(64, 1, 0)...),
			{{61, 0}, {59, 0}, {2, 9}}, {{61, 0}, {59, 0}, {2, 0}, {0, 0}}, append(far[:40:40], [2]int{65, 1}),
		},
		api.ErrLong: {
			pairs(65, 1, 0), pairs(65, 2, 1), pairs(1000, 64, 0), {{61, 0}, {59, 0}, {2, 0}}, {{2, 0}, {61, 0}, {59, 0}}, {{61, 0}, {59, 0}, {2, 0}, {1, 0}}, {{64, 0}, {63, 0}, {61, 0}}, far,
			{{39, 0}, {43, 1}, {3, 0}, {62, 0}}, append(pairs(63, 61, 60), [][2]int{{59, 1}, {58, 1}}...), append(pairs(62, 61, 60), [][2]int{{59, 1}, {58, 1}}...),
			{{40, 0}, {42, 0}, {6, 0}, {63, 0}, {32, 0}, {9, 0}, {27, 0}}, // 7560 is the first above
		},
	}
}

func TestP1602Wrong(t *testing.T) {
	for want, lists := range wrongPairs() {
		for i, l := range lists {
			if base, rows, e := rate.Table(l); base != 0 || len(rows) != 0 || e != want {
				t.Errorf("%d, %d: %d, %d rows, error %d", want, i, base, len(rows), e)
			}
		}
	}
}

// TestP1602Edge: base periods on both sides of 5,000.
func TestP1602Edge(t *testing.T) {
	for _, x := range []struct {
		l    [][2]int
		base int
	}{
		{[][2]int{{56, 0}, {55, 0}}, 3080}, {[][2]int{{8, 0}, {25, 0}, {24, 0}}, 600}, {[][2]int{{37, 0}, {45, 0}, {3, 0}, {27, 0}}, 4995}, {[][2]int{{31, 1}, {23, 2}, {7, 3}}, 4991}, {[][2]int{{13, 1}, {55, 2}, {7, 3}}, 0},
		{[][2]int{{13, 1}, {11, 2}, {35, 3}}, 0}, {[][2]int{{17, 1}, {6, 2}, {49, 3}}, 4998}, {[][2]int{{61, 1}, {41, 0}, {2, 0}}, 0}, {[][2]int{{6, 1}, {27, 1}, {31, 1}, {3, 0}}, 1674}, {[][2]int{{20, 0}, {50, 0}, {32, 0}, {3, 0}}, 2400},
	} {
		base, rows, e := rate.Table(x.l)
		if base != x.base || len(rows) != x.base || (e == api.OK) != (x.base > 0) || e != api.OK && e != api.ErrLong {
			t.Errorf("%v: %d, %d rows, error %d", x.l, base, len(rows), e)
		}
	}
}

func TestP1603Load(t *testing.T) {
	l := [][2]int{{2, 0}, {3, 1}}
	for _, x := range []struct {
		l        [][2]int
		costs    []int
		most, at int
	}{
		{l, []int{5, 7}, 12, 4}, {l, []int{0, 0}, 0, 0}, {l, []int{0, 3}, 3, 1}, {l, []int{3, 0}, 3, 0}, {l, []int{1000000, 1000000}, 2000000, 4}, {nil, nil, 0, 0}, {nil, []int{}, 0, 0},
		{[][2]int{{1, 0}}, []int{9}, 9, 0}, {[][2]int{{64, 63}}, []int{1}, 1, 63}, {[][2]int{{64, 63}}, []int{0}, 0, 0}, {[][2]int{{4, 3}, {4, 1}, {4, 2}}, []int{6, 5, 6}, 6, 2},
		{[][2]int{{4, 1}, {4, 1}, {4, 1}}, []int{1, 2, 3}, 6, 1}, {[][2]int{{2, 0}, {4, 1}, {4, 3}}, []int{5, 5, 5}, 5, 0}, {[][2]int{{2, 1}, {4, 2}}, []int{4, 5}, 5, 2},
		{[][2]int{{61, 60}, {59, 58}}, []int{1, 1}, 2, 3598}, {[][2]int{{9, 8}, {11, 10}, {50, 49}}, []int{1, 2, 4}, 7, 4949},
	} {
		if most, at, e := rate.Load(x.l, x.costs); most != x.most || at != x.at || e != api.OK {
			t.Errorf("%v, %v: %d at %d, error %d", x.l, x.costs, most, at, e)
		}
	}
	costs := make([]int, 64)
	for i := range costs {
		costs[i] = 1000000
	}
	if most, at, e := rate.Load(pairs(64, 64, 5), costs); most != 64000000 || at != 5 || e != api.OK {
		t.Errorf("%d at %d, error %d", most, at, e)
	}
}

func TestP1603Wrong(t *testing.T) {
	l := [][2]int{{2, 0}, {3, 1}}
	for _, x := range []struct {
		l     [][2]int
		costs []int
		e     api.Errno
	}{
		{l, []int{5}, api.ErrCount}, {l, []int{5, 6, 7}, api.ErrCount}, {l, nil, api.ErrCount}, {nil, []int{0}, api.ErrCount}, {l, []int{-1}, api.ErrCount}, {l, []int{5, 6, -1}, api.ErrCount},
		{l, []int{5, -1}, api.ErrArg}, {l, []int{-1, 5}, api.ErrArg}, {l, []int{5, 1000001}, api.ErrArg}, {l, []int{1000001, 0}, api.ErrArg}, {l, []int{math.MinInt, math.MaxInt}, api.ErrArg},
	} {
		if most, at, e := rate.Load(x.l, x.costs); most != 0 || at != 0 || e != x.e {
			t.Errorf("%v, %v: %d at %d, error %d", x.l, x.costs, most, at, e)
		}
	}
}

// TestP1603Ahead: Table's errors are told ahead of those of the costs.
func TestP1603Ahead(t *testing.T) {
	for want, lists := range wrongPairs() {
		for i, l := range lists {
			good := make([]int, len(l))
			bad := make([]int, len(l))
			bad[0] = -1
			for _, costs := range [][]int{good, bad, nil, append(good, 1)} {
				if most, at, e := rate.Load(l, costs); most != 0 || at != 0 || e != want {
					t.Errorf("%d, %d: %d at %d, error %d", want, i, most, at, e)
				}
			}
		}
	}
}

// made is a list of some pairs, and a cost for each of them.
func made(r *rand.Rand) (l [][2]int, costs []int) {
	most := 1 + r.Intn(api.MaxPeriod)
	dear := []int{2, 10, 1000001}[r.Intn(3)]
	for range r.Intn(9) {
		period := 1 + r.Intn(most)
		l = append(l, [2]int{period, r.Intn(period)})
		costs = append(costs, r.Intn(dear))
	}
	return l, costs
}

// leastBase tries all numbers up to the greatest; 0, if none of them is divided by all periods.
func leastBase(l [][2]int) int {
	for base := 1; base <= 5000; base++ {
		all := true
		for _, p := range l {
			all = all && base%p[0] == 0
		}
		if all {
			return base
		}
	}
	return 0
}

// TestP1602P1603Made holds made lists against the promises' words.
func TestP1602P1603Made(t *testing.T) {
	r := rand.New(rand.NewSource(16))
	for range 2000 {
		l, costs := made(r)
		base, rows, e := rate.Table(l)
		most, at, e2 := rate.Load(l, costs)
		want := leastBase(l)
		if base != want || len(rows) != want || e != e2 || (e == api.OK) != (want > 0) || e != api.OK && e != api.ErrLong {
			t.Fatalf("%v: %d, %d rows, errors %d, %d, not %d", l, base, len(rows), e, e2, want)
		}
		greatest, first := 0, 0
		for tick, row := range rows {
			sum := 0
			for i, p := range l {
				if row[i] != rate.Active(p[0], p[1], tick) || len(row) != len(l) {
					t.Fatalf("%v: at %d: %v", l, tick, row)
				}
				if row[i] {
					sum += costs[i]
				}
			}
			if sum > greatest {
				greatest, first = sum, tick
			}
		}
		if most != greatest || at != first {
			t.Fatalf("%v, %v: %d at %d, not %d at %d", l, costs, most, at, greatest, first)
		}
	}
}

// TestP1604Kept: what is handed in stays as it is, its spare room too; what is answered stays when that is written over, and is answered again.
func TestP1604Kept(t *testing.T) {
	r := rand.New(rand.NewSource(4))
	for range 200 {
		l, costs := made(r)
		roomL, roomC := append(append([][2]int{}, l...), [2]int{7, 7}), append(append([]int{}, costs...), 7)
		aheadL, aheadC := append([][2]int{}, roomL...), append([]int{}, roomC...)
		cutL, cutC := roomL[:len(l)], roomC[:len(l)]
		base, rows, e := rate.Table(cutL)
		most, at, _ := rate.Load(cutL, cutC)
		if !reflect.DeepEqual(roomL, aheadL) || !reflect.DeepEqual(roomC, aheadC) {
			t.Fatalf("%v, %v, no longer %v, %v", roomL, roomC, aheadL, aheadC)
		}
		for i := range roomL {
			roomL[i], roomC[i] = [2]int{1, 0}, 1
		}
		again, rows2, e2 := rate.Table(l)
		most2, at2, _ := rate.Load(l, costs)
		if base != again || e != e2 || !reflect.DeepEqual(rows, rows2) || most != most2 || at != at2 {
			t.Fatalf("%v, then %v", rows, rows2)
		}
	}
}

// TestP1604New: no two lists of an answer, or of two answers, share memory.
func TestP1604New(t *testing.T) {
	r := rand.New(rand.NewSource(5))
	for range 200 {
		l, _ := made(r)
		_, want, _ := rate.Table(l)
		_, rows, _ := rate.Table(l)
		for i, row := range rows {
			row = row[:cap(row)]
			for j := range row {
				row[j] = true
			}
			rest := rows[i+1:]
			if len(rest) > 0 && !reflect.DeepEqual(rest[0], want[i+1]) {
				t.Fatalf("%v: row %d is changed by the one ahead", l, i+1)
			}
		}
		if _, again, _ := rate.Table(l); !reflect.DeepEqual(again, want) {
			t.Fatalf("%v: %v, then %v", l, want, again)
		}
	}
}
