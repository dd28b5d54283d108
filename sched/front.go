package sched

// front are the equations that may stand next; the least of them is the one of
// the lowest number.
type front []int

func (f front) Len() int           { return len(f) }
func (f front) Less(i, j int) bool { return f[i] < f[j] }
func (f front) Swap(i, j int)      { f[i], f[j] = f[j], f[i] }
func (f *front) Push(at any)       { *f = append(*f, at.(int)) }

func (f *front) Pop() any {
	last := len(*f) - 1
	at := (*f)[last]
	*f = (*f)[:last]
	return at
}
