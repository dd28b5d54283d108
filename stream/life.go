package stream

// life is how long memories last: those of an instance, or of a state's items.
// It ends with the life around it. Memories are not told that theirs is over:
// they see it when they are asked, so that a new life costs nothing.
type life struct {
	around *life
	seen   int // the age of the one around when this one was begun last
	age    int
}

// begin is told of each activation ahead of all that it asks.
func (l *life) begin(anew bool) {
	if anew || l.seen != l.around.age {
		l.seen = l.around.age
		l.age++
	}
}

// firsts answers what tells at each activation of a part whether it is the
// first one in this life.
func (l *life) firsts() func() bool {
	last := 0
	return func() bool {
		ahead := last
		last = l.age
		return ahead != last
	}
}
