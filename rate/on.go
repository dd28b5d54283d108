package rate

// table has a row for each tick, and in it a place for each pair.
type table [][]bool

func newTable(base, pairs int) table {
	t := make(table, base)
	for tick := range base {
		t[tick] = make([]bool, pairs)
	}
	return t
}

func (t table) on(tick, pair int) { t[tick][pair] = true }

// sum adds up the costs of one tick after the other, and keeps the greatest
// and the first tick of it. No cost is below 0, so that a tick at which none
// is on is never greater than what it begins with: 0 at tick 0.
type sum struct {
	costs     []int
	tick, now int
	most, at  int
}

func (s *sum) on(tick, pair int) {
	if tick != s.tick {
		s.tick, s.now = tick, 0
	}
	s.now += s.costs[pair]
	if s.now > s.most {
		s.most, s.at = s.now, tick
	}
}
