package sample

import (
	"cassegrain/api"
	"cassegrain/check"
	"cassegrain/number"
)

// quarterCheck is the check of a quarter.
func quarterCheck(quarter int) func() api.Errno {
	return check.Range(quarter, 0, 3)
}

// bin returns the bin of samples at a quarter, which may be negative.
func bin(x []api.Gauss, quarter int) api.Gauss {
	var sum complex128
	for n, g := range x {
		sum += complexOf(g) * quarterTurns(-quarter*n)
	}
	return gaussOf(sum)
}

// BinOf returns the bin of samples at a quarter.
func BinOf(x []api.Gauss, quarter int) (api.Gauss, api.Errno) {
	if e := check.First(samplesCheck(x), quarterCheck(quarter)); e != api.OK {
		return api.Gauss{}, e
	}
	return bin(x, quarter), api.OK
}

// BinsOf returns all four bins of samples.
func BinsOf(x []api.Gauss) ([4]api.Gauss, api.Errno) {
	var bins [4]api.Gauss
	if e := samplesCheck(x)(); e != api.OK {
		return bins, e
	}
	for k := range bins {
		bins[k] = bin(x, k)
	}
	return bins, api.OK
}

// Restored returns the four samples with these bins. Four times a sample is the bin of the bins at the negative of its index.
func Restored(s [4]api.Gauss) ([4]api.Gauss, api.Errno) {
	if e := check.Each(s[:], check.Parts(4*api.MaxSample))(); e != api.OK {
		return [4]api.Gauss{}, e
	}
	var x [4]api.Gauss
	for n := range x {
		fourfold := bin(s[:], -n)
		if fourfold.Re%4 != 0 || fourfold.Im%4 != 0 {
			return [4]api.Gauss{}, api.ErrForm
		}
		x[n] = api.Gauss{Re: fourfold.Re / 4, Im: fourfold.Im / 4}
	}
	if e := check.Each(x[:], check.Parts(api.MaxSample))(); e != api.OK {
		return [4]api.Gauss{}, e
	}
	return x, api.OK
}

// MinimumNorm returns the norm that a bin of so many samples has at least, if each has at least the amplitude, and after mixing points at most an eighth of a turn away from the positive real axis.
func MinimumNorm(amplitude, count int) (int, api.Errno) {
	e := check.First(check.Range(amplitude, 0, api.MaxSample), check.Range(count, 0, api.MaxSampleStream))
	if e != api.OK {
		return 0, e
	}
	return number.Ceiling(count*count*amplitude*amplitude, 2), api.OK
}
