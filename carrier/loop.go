package carrier

import (
	"cassegrain/api"
	"cassegrain/check"
	"cassegrain/number"
)

// CheckLoop checks a loop.
func CheckLoop(l api.CarrierLoop) api.Errno {
	return check.First(
		check.Range(l.First, 0, api.MaxCarrierGain),
		check.Range(l.Second, 0, api.MaxCarrierGain),
		check.Range(l.Den, 1, api.MaxCarrierGain),
		turnCheck(l.Frequency),
	)
}

// loopCheck is the check of a loop.
func loopCheck(l api.CarrierLoop) func() api.Errno {
	return func() api.Errno { return CheckLoop(l) }
}

// corrected returns the frequency of a loop after an error, and by how much the loop's phase increases.
func corrected(l api.CarrierLoop, frequency, deviation int) (int, int) {
	frequency += number.Floor(deviation*l.Second, l.Den)
	frequency = max(-halfTurn, min(frequency, halfTurn-1))
	return frequency, frequency + number.Floor(deviation*l.First, l.Den)
}

// begun returns the state of a loop at the beginning.
func begun(l api.CarrierLoop) api.CarrierState {
	return api.CarrierState{Frequency: l.Frequency}
}

// advanced returns the state after a measured phase, and the error.
func advanced(l api.CarrierLoop, x api.CarrierState, phase int) (api.CarrierState, int) {
	deviation := nearest(phase - x.Phase)
	frequency, increase := corrected(l, x.Frequency, deviation)
	return api.CarrierState{Phase: x.Phase + increase, Frequency: frequency}, deviation
}

// tracked returns, for each phase, the state before it, and its error. MaxCarrierSamples steps of a loop do not lead its phase beyond MaxTick.
func tracked(l api.CarrierLoop, phases []int) ([]api.CarrierState, []int) {
	states, deviations := make([]api.CarrierState, len(phases)), make([]int, len(phases))
	x := begun(l)
	for n, phase := range phases {
		states[n] = x
		x, deviations[n] = advanced(l, x, phase)
	}
	return states, deviations
}

// Begin returns the state at the beginning.
func Begin(l api.CarrierLoop) (api.CarrierState, api.Errno) {
	if e := CheckLoop(l); e != api.OK {
		return api.CarrierState{}, e
	}
	return begun(l), api.OK
}

// CheckState checks a loop and a state of it.
func CheckState(l api.CarrierLoop, x api.CarrierState) api.Errno {
	return check.First(
		loopCheck(l),
		check.Range(x.Phase, -api.MaxTick, api.MaxTick),
		turnCheck(x.Frequency),
	)
}

// Advance returns the next state by a measured phase, and the error.
func Advance(l api.CarrierLoop, x api.CarrierState, phase int) (api.CarrierState, int, api.Errno) {
	e := check.First(func() api.Errno { return CheckState(l, x) }, phaseCheck(phase))
	if e != api.OK {
		return api.CarrierState{}, 0, e
	}
	next, deviation := advanced(l, x, phase)
	if !number.Within(next.Phase, -api.MaxTick, api.MaxTick) {
		return api.CarrierState{}, 0, api.ErrLarge
	}
	return next, deviation, api.OK
}

// Track returns, for each phase, the state before it, and its error.
func Track(l api.CarrierLoop, phases []int) ([]api.CarrierState, []int, api.Errno) {
	if e := check.First(loopCheck(l), phasesCheck(phases)); e != api.OK {
		return nil, nil, e
	}
	states, deviations := tracked(l, phases)
	return states, deviations, api.OK
}

// SlipsOf returns the indices of all samples at which a cycle slip occurs.
func SlipsOf(l api.CarrierLoop, phases, truth []int) ([]int, api.Errno) {
	e := check.First(
		loopCheck(l),
		phasesCheck(phases),
		check.Require(api.ErrShape, func() bool { return len(truth) == len(phases) }),
		check.Each(truth, check.Numbers(-api.MaxTick, api.MaxTick)),
	)
	if e != api.OK {
		return nil, e
	}
	var slips []int
	before := 0
	states, _ := tracked(l, phases)
	for n, x := range states {
		turns := number.Floor(truth[n]-x.Phase+halfTurn, api.PhaseTurn)
		if turns != before {
			slips = append(slips, n)
		}
		before = turns
	}
	return slips, api.OK
}

// Disagreements returns the indices of all samples at which two loops disagree.
func Disagreements(loops [2]api.CarrierLoop, phases []int, threshold int) ([]int, api.Errno) {
	e := check.First(
		check.Each(loops[:], CheckLoop),
		phasesCheck(phases),
		check.Range(threshold, 1, api.MaxTick),
	)
	if e != api.OK {
		return nil, e
	}
	var indices []int
	first, _ := tracked(loops[0], phases)
	second, _ := tracked(loops[1], phases)
	for n := range phases {
		if number.Size(first[n].Phase-second[n].Phase) >= threshold {
			indices = append(indices, n)
		}
	}
	return indices, api.OK
}

// FormatLoop returns the string of a loop.
func FormatLoop(l api.CarrierLoop) string {
	return number.Join(l.First, l.Second, l.Den, l.Frequency)
}

// ParseLoop returns the loop with this string.
func ParseLoop(s string) (api.CarrierLoop, api.Errno) {
	numbers, ok := number.Words{Count: 4, Unsigned: 3, Digits: digits}.Read(s)
	if !ok {
		return api.CarrierLoop{}, api.ErrSyntax
	}
	l := api.CarrierLoop{First: numbers[0], Second: numbers[1], Den: numbers[2], Frequency: numbers[3]}
	if e := CheckLoop(l); e != api.OK {
		return api.CarrierLoop{}, e
	}
	return l, api.OK
}
