package obc

// pile is items of one key.
type pile[K comparable, T any] struct {
	key   K
	items []T
}

// piles stand in the order in which what is on them is done.
type piles[K comparable, T any] struct {
	list []pile[K, T]
	last map[K]int // where the last pile of a key stands
}

// gather brings an item together with those of its key: it goes on top of their
// last pile, unless that stands ahead of the place least: then it begins a new
// one, behind all. The answer is where its pile stands.
func gather[K comparable, T any](p *piles[K, T], key K, least int, item T) int {
	at, ok := p.last[key]
	if !ok || at < least {
		at = len(p.list)
		p.list = append(p.list, pile[K, T]{key: key})
		p.last[key] = at
	}
	p.list[at].items = append(p.list[at].items, item)
	return at
}
