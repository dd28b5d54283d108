package sat

// clause is a set of literals, the first two of which watch it, if it has as
// many. Where it was learned there is a lemma of it. Another literal that can
// watch is looked for from where one was found on, as those ahead of it are
// mostly false still.
type clause struct {
	literals []int
	found    int
	of       *lemma
}

// lemma is a clause that was learned, and what it follows from, as far as that
// is not the formula's: other lemmas, and the causes of what some variables are
// at the root. A lemma that is gone stays, as long as others follow from it.
type lemma struct {
	clause
	number int
	from   []*lemma
	roots  []int
	levels int // of how many levels its literals were
	round  int // in which it was needed last
	gone   bool
}

// watch is a clause at a literal that watches it, and another of its literals:
// where that one is true the clause is not looked at.
type watch struct {
	*clause
	other int
}

// kept leaves of a list what stays, in the list's memory.
func kept[T any](list []T, stays func(T) bool) []T {
	count := 0
	for _, x := range list {
		if stays(x) {
			list[count] = x
			count++
		}
	}
	clear(list[count:])
	return list[:count]
}
