package core

// How far a variable is on the way into the order.
const (
	ahead = iota
	open
	done
)

// isOrdered finds the order of the variables, too.
func (a *asker) isOrdered() bool {
	marks := make([]int, len(a.vars))
	for at := range a.vars {
		if !a.enter(at, marks) {
			return false
		}
	}
	return true
}

// enter puts a variable into the order behind all that it hangs on; false, if
// it is on the way there already.
func (a *asker) enter(at int, marks []int) bool {
	if marks[at] != ahead {
		return marks[at] == done
	}
	marks[at] = open
	for _, name := range a.hangsOn(at) {
		if !a.enter(a.places[name], marks) {
			return false
		}
	}
	marks[at] = done
	a.order = append(a.order, at)
	return true
}

func (a *asker) hangsOn(at int) []string {
	if at < len(a.Ins) {
		return nil
	}
	var names []string
	for name := range reads(a.equation(at)) {
		names = append(names, name)
	}
	for name := range edges(a.vars[at]) {
		names = append(names, name)
	}
	return names
}
