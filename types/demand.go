package types

import (
	"slices"

	"metronome/api"
)

// demand asks whether something is as it must be.
type demand func() bool

// must notes what is wrong with a part that does not meet the demands. They are
// asked in order, and only while nothing is wrong, so that one may lean on
// those ahead of it.
func (p *part) must(wrong api.Errno, demands ...demand) {
	for _, met := range demands {
		if p.wrong == api.OK && !met() {
			p.wrong = wrong
		}
	}
}

// all demands that types are such.
func all(such func(api.Type) bool, types ...api.Type) demand {
	return func() bool {
		return !slices.ContainsFunc(types, func(t api.Type) bool { return !such(t) })
	}
}

// same demands that all types are one.
func same(types ...api.Type) demand {
	return func() bool {
		different := map[api.Type]struct{}{}
		for _, t := range types {
			different[t] = struct{}{}
		}
		return len(different) == 1
	}
}

// within demands that a number is one of those from least on, up to most.
func within(least, n, most int) demand {
	return func() bool { return least <= n && n <= most }
}

// counts demands as many inputs, and outputs.
func counts(n api.Node, ins, outs int) demand {
	return func() bool { return len(n.Ins) == ins && len(n.Outs) == outs }
}

func isScalar(t api.Type) bool { return t.Len == 0 }

func isArray(t api.Type) bool { return t.Len != 0 }

func isBool(t api.Type) bool { return t == scalar(api.Bool) }

func scalar(kind int) api.Type { return api.Type{Kind: kind} }
