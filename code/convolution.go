package code

import (
	"iter"
	"math/bits"

	"cassegrain/api"
	"cassegrain/check"
)

// CheckConvolution checks a convolutional code.
func CheckConvolution(c api.CodeConvolution) api.Errno {
	return check.First(
		check.Range(c.Memory, 1, api.MaxCodeMemory),
		func() api.Errno {
			return check.Each(c.Generators[:], check.Numbers(1, 2*stateCount(c)-1))()
		},
	)
}

// convolutionCheck is the check of a convolutional code.
func convolutionCheck(c api.CodeConvolution) func() api.Errno {
	return func() api.Errno { return CheckConvolution(c) }
}

// stateCount returns the number of states of a code whose memory is valid.
func stateCount(c api.CodeConvolution) int {
	return 1 << c.Memory
}

// way leads from a state, with a bit, to the next state.
type way struct {
	bit, next int
	symbols   [2]int
}

// wayFrom returns the way from a state of a valid code with a bit.
func wayFrom(c api.CodeConvolution, state, bit int) way {
	register := bit*stateCount(c) + state
	w := way{bit: bit, next: register >> 1}
	for i, generator := range c.Generators {
		w.symbols[i] = bits.OnesCount(uint(register&generator)) % 2
	}
	return w
}

// waysFrom yields the ways from a state of a valid code: the one with the bit 0 and, if there are two choices, then the one with the bit 1.
func waysFrom(c api.CodeConvolution, state, choices int) iter.Seq[way] {
	return func(yield func(way) bool) {
		for bit := range choices {
			if !yield(wayFrom(c, state, bit)) {
				return
			}
		}
	}
}

// encoded returns the symbols of bits that a valid code encodes.
func encoded(c api.CodeConvolution, bits []int) []int {
	symbols := make([]int, 0, 2*(len(bits)+c.Memory))
	state := 0
	add := func(bit int) {
		w := wayFrom(c, state, bit)
		symbols = append(symbols, w.symbols[:]...)
		state = w.next
	}
	for _, bit := range bits {
		add(bit)
	}
	for range c.Memory {
		add(0)
	}
	return symbols
}

// EncodeBits returns the symbols of bits.
func EncodeBits(c api.CodeConvolution, bits []int) ([]int, api.Errno) {
	if e := check.First(convolutionCheck(c), bitsCheck(bits)); e != api.OK {
		return nil, e
	}
	return encoded(c, bits), api.OK
}

// MetricOf returns the metric of bits for soft symbols.
func MetricOf(c api.CodeConvolution, bits, soft []int) (int, api.Errno) {
	e := check.First(
		convolutionCheck(c),
		bitsCheck(bits),
		softCheck(c, soft),
		check.Require(api.ErrClash, func() bool { return len(soft) == 2*(len(bits)+c.Memory) }),
	)
	if e != api.OK {
		return 0, e
	}
	return int(metric(encoded(c, bits), soft)), api.OK
}

// ones returns the number of symbols 1 of a way.
func (w way) ones() int {
	return w.symbols[0] + w.symbols[1]
}

// onesLeft returns, for each state of a valid code, the minimum number of symbols 1 from there to the state 0.
func onesLeft(c api.CodeConvolution) [maxStates]int {
	var least [maxStates]int
	for state := 1; state < stateCount(c); state++ {
		least[state] = 2 * c.Memory // bits 0 lead to the state 0, with no more symbols than this
	}
	for range stateCount(c) { // a shortest way visits no state twice
		for state := range stateCount(c) {
			for w := range waysFrom(c, state, 2) {
				least[state] = min(least[state], w.ones()+least[w.next])
			}
		}
	}
	return least
}

// FreeDistance returns the free distance.
func FreeDistance(c api.CodeConvolution) (int, api.Errno) {
	if e := CheckConvolution(c); e != api.OK {
		return 0, e
	}
	first := wayFrom(c, 0, 1)
	return first.ones() + onesLeft(c)[first.next], api.OK
}
