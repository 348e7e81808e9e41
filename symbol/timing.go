package symbol

import (
	"iter"
	"slices"

	"cassegrain/api"
	"cassegrain/check"
	"cassegrain/number"
)

// sumOf returns the sum of the samples of a symbol. Its parts are at most MaxSymbolLength MaxSample in size, which is far below 2^24.
func sumOf(samples []api.Gauss) api.Gauss {
	var sum complex64
	for _, g := range samples {
		sum += number.Single(g)
	}
	return number.Gauss(sum)
}

// symbolsFrom yields the sums from an offset, with their indices.
func symbolsFrom(samples []api.Gauss, length, offset int) iter.Seq2[int, api.Gauss] {
	return func(yield func(int, api.Gauss) bool) {
		index := 0
		for at := offset; at+length <= len(samples); at += length {
			if !yield(index, sumOf(samples[at:at+length])) {
				return
			}
			index++
		}
	}
}

// energyOf returns the energy of the first count sums from an offset.
func energyOf(samples []api.Gauss, length, offset, count int) int {
	energy := 0
	for index, sum := range symbolsFrom(samples, length, offset) {
		if index == count {
			break
		}
		energy += number.Power(sum)
	}
	return energy
}

// Energies returns the energies of the offsets 0 to length - 1.
func Energies(l []api.Gauss, length int) ([]int, api.Errno) {
	if e := check.First(samplesCheck(l), lengthCheck(length)); e != api.OK {
		return nil, e
	}
	fewest := max(0, len(l)-(length-1)) / length // the last offset has the fewest sums
	energies := make([]int, length)
	for offset := range length {
		energies[offset] = energyOf(l, length, offset, fewest)
	}
	return energies, api.OK
}

// BestOffset returns the first offset with the maximum energy.
func BestOffset(l []api.Gauss, length int) (int, api.Errno) {
	energies, e := Energies(l, length)
	if e != api.OK {
		return 0, e
	}
	return slices.Index(energies, slices.Max(energies)), api.OK
}

// SumsFrom returns the sums from an offset.
func SumsFrom(l []api.Gauss, length, offset int) ([]api.Gauss, api.Errno) {
	e := check.First(samplesCheck(l), lengthCheck(length), check.Range(offset, 0, length-1))
	if e != api.OK {
		return nil, e
	}
	var sums []api.Gauss
	for _, sum := range symbolsFrom(l, length, offset) {
		sums = append(sums, sum)
	}
	return sums, api.OK
}

// timingCheck is the check of a timing.
func timingCheck(t api.SymbolTiming) func() api.Errno {
	return func() api.Errno {
		return check.First(
			check.Range(t.Length, 2, api.MaxSymbolLength),
			check.Range(t.Threshold, 0, api.MaxNumber),
			check.Require(api.ErrForm, func() bool { return t.Length%2 == 0 }),
		)
	}
}

// lateness returns by how many samples the symbol after this one starts later than expected.
func lateness(samples []api.Gauss, threshold int) int {
	middle := len(samples) / 2
	early, late := number.Power(sumOf(samples[:middle])), number.Power(sumOf(samples[middle:]))
	switch {
	case late > early+threshold:
		return 1
	case early > late+threshold:
		return -1
	}
	return 0
}

// Starts returns the starts of all symbols.
func Starts(t api.SymbolTiming, l []api.Gauss) ([]int, api.Errno) {
	if e := check.First(timingCheck(t), samplesCheck(l)); e != api.OK {
		return nil, e
	}
	var starts []int
	for start := 0; start+t.Length <= len(l); {
		starts = append(starts, start)
		start += t.Length + lateness(l[start:start+t.Length], t.Threshold)
	}
	return starts, api.OK
}
