package rate

import (
	"metronome/api"
)

const (
	maxPairs = 64
	maxBase  = 5000
	maxCost  = 1000000
)

func rightPair(p [2]int) bool {
	period, offset := p[0], p[1]
	return period >= 1 && period <= api.MaxPeriod && offset >= 0 && offset < period
}

// basePeriod stops at the first period by which the number is too great, so
// that no product of it can wrap round.
func basePeriod(l [][2]int) (int, api.Errno) {
	for _, p := range l {
		if !rightPair(p) {
			return 0, api.ErrArg
		}
	}
	if len(l) > maxPairs {
		return 0, api.ErrLong
	}
	base := 1
	for _, p := range l {
		base *= p[0] / commonDivisor(base, p[0])
		if base > maxBase {
			return 0, api.ErrLong
		}
	}
	return base, api.OK
}

func commonDivisor(a, b int) int {
	for b > 0 {
		a, b = b, a%b
	}
	return a
}

func checkCosts(costs []int, pairs int) api.Errno {
	if len(costs) != pairs {
		return api.ErrCount
	}
	for _, c := range costs {
		if c < 0 || c > maxCost {
			return api.ErrArg
		}
	}
	return api.OK
}
