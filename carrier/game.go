package carrier

import (
	"cassegrain/api"
	"cassegrain/check"
)

// game is a loop, and a class whose inputs play against it.
type game struct {
	api.CarrierLoop
	api.CarrierClass
}

// pair is the frequency of a loop and its deviation before a sample. All that a loop does while no sample fails depends on it and on the inputs alone.
type pair struct{ frequency, deviation int }

// CheckClass checks a class.
func CheckClass(c api.CarrierClass) api.Errno {
	return check.First(
		turnCheck(c.Start.Lo),
		turnCheck(c.Start.Hi),
		turnCheck(c.Steps.Lo),
		turnCheck(c.Steps.Hi),
		check.Range(c.Noise, 0, api.MaxCarrierNoise),
		check.Ordered(c.Start),
		check.Ordered(c.Steps),
		check.Require(api.ErrLarge, func() bool { return c.Steps.Hi-c.Steps.Lo < api.MaxCarrierSteps }),
	)
}

// checkBoth checks the loop and the class.
func (g game) checkBoth() api.Errno {
	return check.First(
		loopCheck(g.CarrierLoop),
		func() api.Errno { return CheckClass(g.CarrierClass) },
	)
}

// beginnings yields the pairs before the first sample.
func (g game) beginnings(yield func(pair) bool) {
	for deviation := g.Start.Lo; deviation <= g.Start.Hi; deviation++ {
		if !yield(pair{frequency: g.Frequency, deviation: deviation}) {
			return
		}
	}
}

// inputs yields all inputs of a sample.
func (g game) inputs(yield func(api.CarrierInput) bool) {
	for noise := -g.Noise; noise <= g.Noise; noise++ {
		for step := g.Steps.Lo; step <= g.Steps.Hi; step++ {
			if !yield(api.CarrierInput{Noise: noise, Step: step}) {
				return
			}
		}
	}
}

// fails says whether a trial fails at a sample with this pair and noise.
func (p pair) fails(noise int) bool {
	return !withinTurn(p.deviation + noise)
}

// failing returns a noise with which a pair fails, if there is one. If any does, one of those that are greatest in size does.
func (g game) failing(p pair) (int, bool) {
	for _, noise := range [2]int{-g.Noise, g.Noise} {
		if p.fails(noise) {
			return noise, true
		}
	}
	return 0, false
}

// fails says whether a pair fails with some noise.
func (g game) fails(p pair) bool {
	_, fails := g.failing(p)
	return fails
}

// next returns the pair before the next sample.
func (g game) next(p pair, in api.CarrierInput) pair {
	frequency, increase := corrected(g.CarrierLoop, p.frequency, p.deviation+in.Noise)
	return pair{frequency: frequency, deviation: p.deviation + in.Step - increase}
}

// CheckTrial accepts an input of a class by which a loop fails at the last sample, and not before, and returns the number of samples.
func CheckTrial(l api.CarrierLoop, c api.CarrierClass, x api.CarrierTrial) (int, api.Errno) {
	g := game{CarrierLoop: l, CarrierClass: c}
	e := check.First(
		g.checkBoth,
		check.Range(x.Start, c.Start.Lo, c.Start.Hi),
		check.Require(api.ErrShape, func() bool { return len(x.Inputs) > 0 }),
		check.Require(api.ErrLarge, func() bool { return len(x.Inputs) <= api.MaxCarrierTrial }),
		func() api.Errno { return g.play(x) },
	)
	if e != api.OK {
		return 0, e
	}
	return len(x.Inputs), api.OK
}

// play checks the samples of a trial, one by one.
func (g game) play(x api.CarrierTrial) api.Errno {
	p := pair{frequency: g.Frequency, deviation: x.Start}
	for n, in := range x.Inputs {
		last := n == len(x.Inputs)-1
		e := check.First(
			check.Range(in.Noise, -g.Noise, g.Noise),
			check.Range(in.Step, g.Steps.Lo, g.Steps.Hi),
			check.Require(api.ErrState, func() bool { return last || !p.fails(in.Noise) }),
			check.Require(api.ErrProof, func() bool { return !last || p.fails(in.Noise) }),
		)
		if e != api.OK {
			return e
		}
		p = g.next(p, in)
	}
	return api.OK
}

// arrival is how a pair was reached first: the pair before, and the input there.
type arrival struct {
	from  pair
	input api.CarrierInput
}

// FirstFailure returns an input that CheckTrial accepts, with the minimum number of samples.
func FirstFailure(l api.CarrierLoop, c api.CarrierClass) (api.CarrierTrial, api.Errno) {
	g := game{CarrierLoop: l, CarrierClass: c}
	if e := g.checkBoth(); e != api.OK {
		return api.CarrierTrial{}, e
	}
	reached := map[pair]arrival{}
	var newest []pair
	for p := range g.beginnings {
		reached[p] = arrival{}
		newest = append(newest, p)
	}
	for sample := 0; len(newest) > 0; sample++ {
		if len(reached) > api.MaxCarrierPairs { // counted before any of them is found to fail: all pairs of a sample have to be examined
			return api.CarrierTrial{}, api.ErrLarge
		}
		for _, p := range newest {
			if noise, fails := g.failing(p); fails {
				return g.trial(p, noise, sample, reached), api.OK
			}
		}
		newest = g.spread(newest, reached)
	}
	return api.CarrierTrial{}, api.ErrNone
}

// spread returns the pairs that are reached from the newest ones for the first time, and adds them to those that were reached. It stops at one more than may be examined.
func (g game) spread(newest []pair, reached map[pair]arrival) []pair {
	var later []pair
spreading:
	for _, p := range newest {
		for in := range g.inputs {
			next := g.next(p, in)
			if _, known := reached[next]; known {
				continue
			}
			if len(reached) > api.MaxCarrierPairs {
				break spreading
			}
			reached[next] = arrival{from: p, input: in}
			later = append(later, next)
		}
	}
	return later
}

// trial returns an input that reaches a pair before a sample, and fails there with a noise.
func (g game) trial(p pair, noise, sample int, reached map[pair]arrival) api.CarrierTrial {
	inputs := make([]api.CarrierInput, sample+1)
	inputs[sample] = api.CarrierInput{Noise: noise, Step: g.Steps.Lo} // the step after the last sample is of no account
	for n := sample - 1; n >= 0; n-- {
		inputs[n] = reached[p].input
		p = reached[p].from
	}
	return api.CarrierTrial{Start: p.deviation, Inputs: inputs}
}
