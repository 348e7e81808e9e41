package carrier

import (
	"cassegrain/api"
	"cassegrain/check"
	"cassegrain/number"
)

// quarterTurns returns i to the power n, which may be negative.
func quarterTurns(n int) complex64 {
	powers := [4]complex64{1, 1i, -1, -1i}
	return powers[number.Modulo(n, len(powers))]
}

// CheckHypothesis checks a hypothesis.
func CheckHypothesis(h api.CarrierHypothesis) api.Errno {
	return check.First(
		phaseCheck(h.Start),
		turnCheck(h.Frequency),
		check.Range(h.Rate, -api.MaxCarrierRate, api.MaxCarrierRate),
	)
}

// hypothesisCheck is the check of a hypothesis.
func hypothesisCheck(h api.CarrierHypothesis) func() api.Errno {
	return func() api.Errno { return CheckHypothesis(h) }
}

// quarterAt returns the quarter of a valid hypothesis at a sample.
func quarterAt(h api.CarrierHypothesis, n int) int {
	phase := h.Start + h.Frequency*n + h.Rate*(n*(n-1)/2)
	return number.Modulo(phase, api.PhaseTurn) / quarterTurn
}

// replica returns the first n samples of the replica of a valid hypothesis.
func replica(h api.CarrierHypothesis, n int) []api.Gauss {
	samples := make([]api.Gauss, n)
	for at := range samples {
		samples[at] = number.Gauss(quarterTurns(quarterAt(h, at)))
	}
	return samples
}

// correlation returns the correlation of valid samples with a valid hypothesis. Its parts, and those of all sums before it, are at most MaxCarrierSamples MaxSample in size, which is far below 2^24.
func correlation(h api.CarrierHypothesis, samples []api.Gauss) api.Gauss {
	var sum complex64
	for n, g := range samples {
		sum += number.Single(g) * quarterTurns(-quarterAt(h, n))
	}
	return number.Gauss(sum)
}

// Replica returns the first n samples of the replica.
func Replica(h api.CarrierHypothesis, n int) ([]api.Gauss, api.Errno) {
	if e := check.First(hypothesisCheck(h), countCheck(n)); e != api.OK {
		return nil, e
	}
	return replica(h, n), api.OK
}

// CorrelationOf returns the correlation of samples with a hypothesis.
func CorrelationOf(h api.CarrierHypothesis, samples []api.Gauss) (api.Gauss, api.Errno) {
	if e := check.First(hypothesisCheck(h), samplesCheck(samples)); e != api.OK {
		return api.Gauss{}, e
	}
	return correlation(h, samples), api.OK
}

// CountsBetween returns, for each number of quarters, at how many of n samples the second hypothesis is ahead of the first one by it.
func CountsBetween(a, b api.CarrierHypothesis, n int) ([4]int, api.Errno) {
	var counts [4]int
	if e := check.First(hypothesisCheck(a), hypothesisCheck(b), countCheck(n)); e != api.OK {
		return counts, e
	}
	for at := range n {
		counts[number.Modulo(quarterAt(b, at)-quarterAt(a, at), len(counts))]++
	}
	return counts, api.OK
}

// FormatHypothesis returns the string of a hypothesis.
func FormatHypothesis(h api.CarrierHypothesis) string {
	return number.Join(h.Start, h.Frequency, h.Rate)
}

// ParseHypothesis returns the hypothesis with this string.
func ParseHypothesis(s string) (api.CarrierHypothesis, api.Errno) {
	numbers, ok := number.Words{Count: 3, Unsigned: 1, Digits: digits}.Read(s)
	if !ok {
		return api.CarrierHypothesis{}, api.ErrSyntax
	}
	h := api.CarrierHypothesis{Start: numbers[0], Frequency: numbers[1], Rate: numbers[2]}
	if e := CheckHypothesis(h); e != api.OK {
		return api.CarrierHypothesis{}, e
	}
	return h, api.OK
}
