package code

import (
	"metronome/api"
	"metronome/bv"
)

func isShort(c api.Code) bool {
	return len(c.Body) <= api.MaxCode && len(c.Kinds) <= api.MaxCells && c.Stack <= api.MaxStack
}

func isFormed(c api.Code) bool {
	return hasCounts(c) && hasKinds(c) && hasInits(c) && hasOps(c)
}

// hasCounts asks each count by itself ahead of their sum, which could wrap
// round.
func hasCounts(c api.Code) bool {
	for _, n := range []int{c.Ins, c.Outs, c.Cells} {
		if n < 0 || n > len(c.Kinds) {
			return false
		}
	}
	return c.Stack >= 0 && c.Ins+c.Outs+c.Cells <= len(c.Kinds)
}

func hasKinds(c api.Code) bool {
	for _, kind := range c.Kinds {
		if !isKind(kind) {
			return false
		}
	}
	return true
}

func isKind(kind int) bool { return bv.Width(kind) > 0 }

func hasInits(c api.Code) bool {
	if len(c.Init) != c.Cells {
		return false
	}
	cells := c.Kinds[c.Ins+c.Outs:]
	for i, n := range c.Init {
		if !bv.Is(cells[i], n) {
			return false
		}
	}
	return true
}

func hasOps(c api.Code) bool {
	for _, in := range c.Body {
		if in.Op < api.IPush || in.Op > api.IEnd {
			return false
		}
	}
	return len(c.Body) > 0 && c.Body[len(c.Body)-1].Op == api.IEnd
}
