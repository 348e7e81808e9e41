package code

import (
	"math"

	"cassegrain/api"
	"cassegrain/check"
)

// maxStates is the maximum number of states of a convolutional code.
const maxStates = 1 << api.MaxCodeMemory

// row contains a metric for each state. Metrics are at most 7 times the number of soft symbols in size, and potentials at most MaxCodePrice: both are far below 2^24, so that single precision is exact.
type row [maxStates]float32

// trellis is a convolutional code, and soft symbols that are decoded with it.
type trellis struct {
	api.CodeConvolution
	soft []int
}

// softCheck is the check of soft symbols of a valid convolutional code.
func softCheck(c api.CodeConvolution, soft []int) func() api.Errno {
	return func() api.Errno {
		return check.First(
			check.Require(api.ErrShape, func() bool { return len(soft)%2 == 0 && len(soft) >= 2*c.Memory }),
			check.AtMost(2*(api.MaxCodeBits+c.Memory), soft, softItem),
		)
	}
}

// newTrellis checks a convolutional code and soft symbols.
func newTrellis(c api.CodeConvolution, soft []int) (trellis, api.Errno) {
	if e := check.First(convolutionCheck(c), softCheck(c, soft)); e != api.OK {
		return trellis{}, e
	}
	return trellis{CodeConvolution: c, soft: soft}, api.OK
}

// metric returns the sum of the soft symbols whose symbol is 0, minus that of the others.
func metric(symbols, soft []int) float32 {
	sum := float32(0)
	for i, symbol := range symbols {
		sum += float32(soft[i] * (1 - 2*symbol))
	}
	return sum
}

// last returns the last step.
func (t trellis) last() int {
	return len(t.soft) / 2
}

// choices returns how many bits a step has the choice of.
func (t trellis) choices(step int) int {
	if step < t.last()-t.Memory {
		return 2
	}
	return 1
}

// gain returns the gain of a way from a step to the next one.
func (t trellis) gain(step int, w way) float32 {
	return metric(w.symbols[:], t.soft[2*step:2*step+2])
}

// best returns the way from a state that has the greatest metric up to the last step, and this metric. Of several ways it is the one with the bit 0, which makes the best bits the lexicographically first ones.
func (t trellis) best(step, state int, next row) (way, float32) {
	var best way
	most := float32(math.Inf(-1))
	for w := range waysFrom(t.CodeConvolution, state, t.choices(step)) {
		if sum := t.gain(step, w) + next[w.next]; sum > most {
			best, most = w, sum
		}
	}
	return best, most
}

// metricsLeft returns, for each step and state, the greatest metric from there to the last step. All states of the last step count: the bits 0 at the end have led to the state 0 there, whatever the bits are.
func (t trellis) metricsLeft() []row {
	rows := make([]row, t.last()+1)
	for step := t.last() - 1; step >= 0; step-- {
		for state := range stateCount(t.CodeConvolution) {
			_, rows[step][state] = t.best(step, state, rows[step+1])
		}
	}
	return rows
}

// bestBits returns the best bits, and their metric.
func (t trellis) bestBits() ([]int, int) {
	rows := t.metricsLeft()
	bits := make([]int, t.last()-t.Memory)
	state := 0
	for step := range bits {
		w, _ := t.best(step, state, rows[step+1])
		bits[step] = w.bit
		state = w.next
	}
	return bits, int(rows[0][0])
}

// BestBits returns the best bits, and their metric.
func BestBits(c api.CodeConvolution, soft []int) ([]int, int, api.Errno) {
	t, e := newTrellis(c, soft)
	if e != api.OK {
		return nil, 0, e
	}
	bits, most := t.bestBits()
	return bits, most, api.OK
}

// Potentials returns potentials whose bound is the maximum metric: the metrics left, with the opposite sign. No way gains more than the difference of the metrics left before and after it.
func Potentials(c api.CodeConvolution, soft []int) (api.CodePotentials, api.Errno) {
	t, e := newTrellis(c, soft)
	if e != api.OK {
		return nil, e
	}
	var p api.CodePotentials
	for _, left := range t.metricsLeft() {
		numbers := make([]int, stateCount(c))
		for state := range numbers {
			numbers[state] = -int(left[state])
		}
		p = append(p, numbers)
	}
	return p, api.OK
}

// CheckPotentials accepts potentials, and returns their bound.
func CheckPotentials(c api.CodeConvolution, soft []int, p api.CodePotentials) (int, api.Errno) {
	t, e := newTrellis(c, soft)
	if e != api.OK {
		return 0, e
	}
	e = check.First(
		check.Require(api.ErrShape, func() bool { return len(p) == t.last()+1 }),
		check.Each(p, t.checkNumbers),
		check.Require(api.ErrProof, func() bool { return t.proves(p) }),
	)
	if e != api.OK {
		return 0, e
	}
	return p[t.last()][0] - p[0][0], api.OK
}

// checkNumbers checks the numbers of a step of potentials.
func (t trellis) checkNumbers(numbers []int) api.Errno {
	return check.First(
		check.Require(api.ErrShape, func() bool { return len(numbers) == stateCount(t.CodeConvolution) }),
		check.Each(numbers, check.Numbers(-api.MaxCodePrice, api.MaxCodePrice)),
	)
}

// proves says whether no way of a trellis gains more than potentials of the right shape allow.
func (t trellis) proves(p api.CodePotentials) bool {
	for step := range t.last() {
		for state, from := range p[step] {
			for w := range waysFrom(t.CodeConvolution, state, t.choices(step)) {
				if float32(from)+t.gain(step, w) > float32(p[step+1][w.next]) {
					return false
				}
			}
		}
	}
	return true
}
