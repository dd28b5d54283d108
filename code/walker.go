package code

import (
	"metronome/api"
	"metronome/bv"
)

// walker goes over the instructions once, from the first to the last: as jumps
// lead on only, all ways to an instruction are known when it is the next.
type walker struct {
	code api.Code
	at   int     // the instruction that is asked
	now  stack   // the stack there, and what the instruction makes of it
	ways []stack // of each instruction: the stack that the first way to it has
}

// canRun asks code that is formed.
func canRun(c api.Code) bool {
	w := walker{code: c, ways: make([]stack, len(c.Body))}
	w.ways[0].reached = true
	rules := rulesOf()
	for at, in := range c.Body {
		if !w.ways[at].reached {
			continue
		}
		w.at, w.now = at, w.ways[at]
		if !isBare(in) || !rules[in.Op](&w, in) {
			return false
		}
	}
	return true
}

// isBare tells whether the fields that the Op does not have are 0.
func isBare(in api.Ins) bool {
	switch in.Op {
	case api.IEnd:
		if in.N != 0 {
			return false
		}
		fallthrough
	case api.ILoad, api.ISave, api.IJump, api.IFalse:
		return in.K == 0
	}
	return true
}

// rulesOf answers for each Op what asks an instruction of it.
func rulesOf() [api.IEnd + 1]func(*walker, api.Ins) bool {
	return [...]func(*walker, api.Ins) bool{
		api.IPush:  (*walker).push,
		api.ILoad:  (*walker).load,
		api.ISave:  (*walker).save,
		api.IUn:    (*walker).unary,
		api.IBin:   (*walker).binary,
		api.ICast:  (*walker).cast,
		api.IJump:  (*walker).jump,
		api.IFalse: (*walker).branch,
		api.IEnd:   (*walker).end,
	}
}

func (w *walker) push(in api.Ins) bool {
	return bv.Is(in.K, in.N) && w.put(in.K) && w.next()
}

func (w *walker) load(in api.Ins) bool {
	return w.isSlot(in.N) && w.put(w.code.Kinds[in.N]) && w.next()
}

func (w *walker) save(in api.Ins) bool {
	return w.isSlot(in.N) && in.N >= w.code.Ins && w.now.take(w.code.Kinds[in.N]) && w.next()
}

func (w *walker) unary(in api.Ins) bool {
	_, ok := bv.Un(in.N, in.K, bv.Zero(in.K))
	return ok && w.now.take(in.K) && w.put(in.K) && w.next()
}

func (w *walker) binary(in api.Ins) bool {
	_, kind, ok := bv.Bin(in.N, in.K, bv.Zero(in.K), bv.Zero(in.K))
	return ok && w.now.take(in.K) && w.now.take(in.K) && w.put(kind) && w.next()
}

func (w *walker) cast(in api.Ins) bool {
	return isKind(in.K) && w.now.take(in.N) && w.put(in.K) && w.next()
}

func (w *walker) jump(in api.Ins) bool { return w.lead(in.N) }

func (w *walker) branch(in api.Ins) bool {
	return w.now.take(api.Bool) && w.next() && w.lead(in.N)
}

func (w *walker) end(api.Ins) bool { return w.now.high == 0 }

func (w *walker) isSlot(n int) bool { return n >= 0 && n < len(w.code.Kinds) }

// put lays a value on the stack, if the code's Stack has room for it.
func (w *walker) put(kind int) bool {
	if int(w.now.high) >= w.code.Stack {
		return false
	}
	w.now.put(kind)
	return true
}

// next goes on to the instruction behind: there is one, as the last is an IEnd.
func (w *walker) next() bool { return w.lead(0) }

// lead goes on to the place n and 1 behind, if it is there and no earlier way
// to it has another stack.
func (w *walker) lead(n int) bool {
	if n < 0 || n >= len(w.ways)-1-w.at {
		return false
	}
	to := &w.ways[w.at+1+n]
	if !to.reached {
		*to = w.now
	}
	return *to == w.now
}
