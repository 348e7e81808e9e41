package carrier

import (
	"iter"

	"cassegrain/api"
	"cassegrain/check"
	"cassegrain/number"
)

// CheckGrid checks a grid, and returns the number of its hypotheses.
func CheckGrid(g api.CarrierGrid) (int, api.Errno) {
	const rate = api.MaxCarrierRate
	e := check.First(
		turnCheck(g.Frequencies.Lo),
		turnCheck(g.Frequencies.Hi),
		check.Ends(g.Rates, -rate, rate),
		check.Range(g.Step, 1, halfTurn),
		check.Ordered(g.Frequencies),
		check.Ordered(g.Rates),
		check.Require(api.ErrLarge, func() bool { return gridSize(g) <= api.MaxCarrierGrid }),
	)
	if e != api.OK {
		return 0, e
	}
	return gridSize(g), api.OK
}

// gridSize returns the number of hypotheses of a grid whose ranges and step are valid.
func gridSize(g api.CarrierGrid) int {
	frequencies := (g.Frequencies.Hi-g.Frequencies.Lo)/g.Step + 1
	rates := g.Rates.Hi - g.Rates.Lo + 1
	return frequencies * rates
}

// gridCheck is the check of a grid.
func gridCheck(g api.CarrierGrid) func() api.Errno {
	return func() api.Errno {
		_, e := CheckGrid(g)
		return e
	}
}

// hypotheses yields the hypotheses of a valid grid, in their order.
func hypotheses(g api.CarrierGrid) iter.Seq[api.CarrierHypothesis] {
	return func(yield func(api.CarrierHypothesis) bool) {
		for frequency := g.Frequencies.Lo; frequency <= g.Frequencies.Hi; frequency += g.Step {
			for rate := g.Rates.Lo; rate <= g.Rates.Hi; rate++ {
				if !yield(api.CarrierHypothesis{Frequency: frequency, Rate: rate}) {
					return
				}
			}
		}
	}
}

// strongest returns the first hypothesis of a valid grid with the maximum power, and this power.
func strongest(g api.CarrierGrid, samples []api.Gauss) (api.CarrierHypothesis, int) {
	var best api.CarrierHypothesis
	most := -1 // less than any power
	for h := range hypotheses(g) {
		if p := number.Power(correlation(h, samples)); p > most {
			best, most = h, p
		}
	}
	return best, most
}

// Search returns the first hypothesis of a grid with the maximum power, and this power.
func Search(g api.CarrierGrid, samples []api.Gauss) (api.CarrierHypothesis, int, api.Errno) {
	if e := check.First(gridCheck(g), samplesCheck(samples)); e != api.OK {
		return api.CarrierHypothesis{}, 0, e
	}
	h, most := strongest(g, samples)
	return h, most, api.OK
}

// ShareFound returns which part of the power of a hypothesis's replica a grid finds.
func ShareFound(g api.CarrierGrid, h api.CarrierHypothesis, n int) (api.Frac, api.Errno) {
	if e := check.First(gridCheck(g), hypothesisCheck(h), countCheck(n)); e != api.OK {
		return api.Frac{}, e
	}
	_, most := strongest(g, replica(h, n))
	return number.Lowest(most, n*n), api.OK
}
