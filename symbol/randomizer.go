package symbol

import (
	"math/bits"

	"cassegrain/api"
	"cassegrain/check"
)

// randomizerCheck is the check of a randomizer.
func randomizerCheck(r api.SymbolRandomizer) func() api.Errno {
	mask := func(n int) func() api.Errno {
		return func() api.Errno { return check.Range(n, 1, 1<<r.Degree-1)() }
	}
	return func() api.Errno {
		return check.First(
			check.Range(r.Degree, 1, api.MaxSymbolDegree),
			mask(r.Taps),
			mask(r.Seed),
			check.Require(api.ErrForm, func() bool { return r.Taps&1 == 1 }),
		)
	}
}

// stepped returns the content of a valid randomizer's register after a step.
func stepped(r api.SymbolRandomizer, register int) int {
	sum := bits.OnesCount(uint(register&r.Taps)) % 2
	return register>>1 | sum<<(r.Degree-1)
}

// sequence returns the first bits of the sequence of a valid randomizer.
func sequence(r api.SymbolRandomizer, count int) []int {
	l := make([]int, count)
	register := r.Seed
	for i := range l {
		l[i] = register & 1
		register = stepped(r, register)
	}
	return l
}

// SequenceOf returns the first bits of the sequence.
func SequenceOf(r api.SymbolRandomizer, count int) ([]int, api.Errno) {
	e := check.First(randomizerCheck(r), check.Range(count, 0, api.MaxSymbolCount))
	if e != api.OK {
		return nil, e
	}
	return sequence(r, count), api.OK
}

// PeriodOf returns the period. There is one: as the lowest bit is in Taps, no two contents of the register have the same next one.
func PeriodOf(r api.SymbolRandomizer) (int, api.Errno) {
	if e := randomizerCheck(r)(); e != api.OK {
		return 0, e
	}
	period := 1
	for register := stepped(r, r.Seed); register != r.Seed; register = stepped(r, register) {
		period++
	}
	return period, api.OK
}

// Randomized returns the soft symbols with the opposite sign wherever the sequence has a 1.
func Randomized(r api.SymbolRandomizer, soft []int) ([]int, api.Errno) {
	if e := check.First(randomizerCheck(r), softCheck(soft)); e != api.OK {
		return nil, e
	}
	randomized := make([]int, len(soft))
	for i, bit := range sequence(r, len(soft)) {
		randomized[i] = soft[i] * (1 - 2*bit)
	}
	return randomized, api.OK
}
